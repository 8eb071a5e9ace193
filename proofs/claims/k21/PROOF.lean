import PyProof.Rows.All
import Wide.All
import OpenK.AllK
import Wide.FinOn
import PyProof.EqAt
import PyProof.EqKinds
import PyProof.TupleCall
import KE.BitLaws
import PySem.Challenge.RW_latestow_k21_each_refusal
set_option Elab.async false
set_option linter.all false
set_option maxRecDepth 100000
/-! THE HAND LAYER, for ints, bools, texts, own classes, lists, tuples, dicts, comprehensions, walks over dicts, enumerate, zip, reversed, texts, calls, loops. Paste it whole ahead of your own text; what your proof does not reach may be deleted. -/
namespace L2
open PySem PySem.Spec PyProof.Rows

/-- a key: an int or a str -/
abbrev Key := Sum Int Str
def keyIs : Key → Value → Bool
  | .inl k, v => Value.isInt k v
  | .inr x, v => Value.isStrOf x v
def keyH (w : World) : Key → Int
  | .inl k => hashInt k
  | .inr x => hashStr w x
theorem keyIs_shape : ∀ {k : Key} {v : Value}, keyIs k v = true → (∃ i t, k = Sum.inl i ∧ v = Value.int i t) ∨ (∃ x t, k = Sum.inr x ∧ v = Value.str x t)
  | .inl i, v, h => by
    obtain ⟨t, e⟩ := Value.isInt_shape (k := i) (v := v) h
    exact .inl ⟨i, t, rfl, e⟩
  | .inr x, v, h => by
    obtain ⟨t, e⟩ := Value.isStrOf_shape (x := x) (v := v) h
    exact .inr ⟨x, t, rfl, e⟩
theorem key_ll (a b : Int) : decide ((Sum.inl a : Key) = Sum.inl b) = (a == b) := by
  by_cases e : a = b
  · subst e; simp
  · have h : ¬ (Sum.inl a : Key) = Sum.inl b := fun q => e (Sum.inl.inj q)
    rw [decide_eq_false h]
    exact (beq_eq_false_iff_ne.mpr e).symm
theorem key_rr (a b : Str) : decide ((Sum.inr a : Key) = Sum.inr b) = decide (a = b) := by
  by_cases e : a = b
  · subst e; simp
  · have h : ¬ (Sum.inr a : Key) = Sum.inr b := fun q => e (Sum.inr.inj q)
    rw [decide_eq_false h, decide_eq_false e]
theorem key_lr (a : Int) (b : Str) : decide ((Sum.inl a : Key) = Sum.inr b) = false := decide_eq_false (fun q => nomatch q)
theorem key_rl (a : Str) (b : Int) : decide ((Sum.inr a : Key) = Sum.inl b) = false := decide_eq_false (fun q => nomatch q)

def mixKind (prog : Program) (w : World) : PySem.KeyKind prog w Key where
  is := keyIs
  hash := keyH w
  inj := fun v a b ha hb => by
    rcases keyIs_shape ha with ⟨i, t, rfl, rfl⟩ | ⟨x, t, rfl, rfl⟩
    · rcases keyIs_shape hb with ⟨j, u, rfl, e⟩ | ⟨y, u, rfl, e⟩
      · injection e with e1 _; rw [e1]
      · exact nomatch e
    · rcases keyIs_shape hb with ⟨j, u, rfl, e⟩ | ⟨y, u, rfl, e⟩
      · exact nomatch e
      · injection e with e1 _; rw [e1]
  byValue := fun k v h => by
    rcases keyIs_shape h with ⟨i, t, rfl, rfl⟩ | ⟨x, t, rfl, rfl⟩ <;> rfl
  pyHash := fun hv h => by
    rcases keyIs_shape hv with ⟨i, t, rfl, rfl⟩ | ⟨x, t, rfl, rfl⟩
    · exact wpAny_pyHash_int h
    · exact wpAny_pyHash_str h
  eqBool := fun hu hv h => by
    rcases keyIs_shape hu with ⟨i, t, rfl, rfl⟩ | ⟨x, t, rfl, rfl⟩
    · rcases keyIs_shape hv with ⟨j, u, rfl, rfl⟩ | ⟨y, u, rfl, rfl⟩
      · rw [key_ll] at h; exact wpAny_eqBool_int h
      · rw [key_lr] at h; exact SeqAt.EqAt.int_str i t y u _ _ _ _ h
    · rcases keyIs_shape hv with ⟨j, u, rfl, rfl⟩ | ⟨y, u, rfl, rfl⟩
      · rw [key_rl] at h; exact SeqAt.EqAt.str_int x t j u _ _ _ _ h
      · rw [key_rr] at h; exact wpAny_eqBool_str h
  «strs» := fun k x t v h => by
    rcases keyIs_shape h with ⟨i, u, rfl, e⟩ | ⟨y, u, rfl, e⟩
    · exact nomatch e
    · injection e with e1 _
      subst e1
      cases v <;> rfl

end L2

namespace L2
open PySem PySem.Spec PyProof.Rows

/-- a value, without the heap -/
inductive V where
  | non | bl (b : Bool) | int (i : Int) | str (x : Str) | byt (b : Array UInt8) | flt (b : UInt64) | ref (a : Addr) | ty (n : String)
  deriving DecidableEq

def RelV : V → Value → Prop
  | .non, u => u = Value.none
  | .bl b, u => u = Value.bool b
  | .int i, u => ∃ t, u = Value.int i t
  | .str x, u => ∃ t, u = Value.str x t
  | .byt b, u => ∃ t, u = Value.bytes b t
  | .flt b, u => ∃ t, u = Value.float b t
  | .ref a, u => u = Value.ref a
  | .ty n, u => u = Value.type n

abbrev Vals : List V → List Value → Prop := Paired RelV
theorem Vals.length {xs : List V} {us : List Value} (r : Vals xs us) : xs.length = us.length := Paired.length r
theorem Vals.get : ∀ {xs : List V} {us : List Value} {i : Nat} {x : V}, Vals xs us → xs[i]? = some x → ∃ u, us[i]? = some u ∧ RelV x u
  | _, _, _, _, .nil, e => by simp at e
  | _, _, 0, _, .cons r _, e => by simp at e; subst e; exact ⟨_, rfl, r⟩
  | _, _, i + 1, x, .cons _ t, e => by
    obtain ⟨u, h1, h2⟩ := Vals.get (i := i) (x := x) t (by simpa using e)
    exact ⟨u, by simpa using h1, h2⟩
theorem Vals.set {x : V} {u : Value} (r : RelV x u) : ∀ {xs : List V} {us : List Value} (i : Nat), Vals xs us → Vals (xs.set i x) (us.set i u)
  | _, _, _, .nil => .nil
  | _, _, 0, .cons _ t => .cons r t
  | _, _, i + 1, .cons q t => .cons q (Vals.set r i t)
theorem Vals.append : ∀ {xs ys : List V} {us ws : List Value}, Vals xs us → Vals ys ws → Vals (xs ++ ys) (us ++ ws)
  | _, _, _, _, .nil, s => s
  | _, _, _, _, .cons r t, s => .cons r (Vals.append t s)
theorem Vals.take : ∀ {xs : List V} {us : List Value} (n : Nat), Vals xs us → Vals (xs.take n) (us.take n)
  | _, _, 0, _ => .nil
  | _, _, _ + 1, .nil => .nil
  | _, _, n + 1, .cons r t => .cons r (Vals.take n t)
theorem Vals.drop : ∀ {xs : List V} {us : List Value} (n : Nat), Vals xs us → Vals (xs.drop n) (us.drop n)
  | _, _, 0, r => r
  | _, _, _ + 1, .nil => .nil
  | _, _, n + 1, .cons _ t => Vals.drop n t
def RelO : Option V → Option Value → Prop
  | some v, some u => RelV v u
  | none, none => True
  | _, _ => False
def KV {κ : Type} : List (κ × V) → List (κ × Value) → Prop := Paired fun (p : κ × V) (q : κ × Value) => p.1 = q.1 ∧ RelV p.2 q.2

/-- a key of a dict (00_mix): an int or a text -/
def kV : Key → V
  | .inl i => .int i
  | .inr x => .str x

/-- what stands at a tracked address -/
inductive HO where
  /-- a list -/
  | lst (xs : List V)
  /-- a tuple (never changes) -/
  | tup (xs : List V)
  /-- a dict whose keys are ints and texts; one whose keys are tuples of ints and texts (the empty one is both) -/
  | dK (kvs : List (Key × V)) | dT (kvs : List (List Key × V))
  /-- a set of ints: its members, its size -/
  | set (S : Int → Bool) (n : Nat)
  /-- an instance of the class at C, its dict at dx, its attributes -/
  | ins (C dx : Addr) (fs : List (Str × V))
  /-- the dict of the instance at x -/
  | own (x : Addr)
  /-- the dict of an exception -/
  | xd (fs : List (Str × V))
  /-- a bound method, f of x -/
  | met (f x : Addr)
  /-- a range object lo, lo + 1, .. below hi -/
  | rng (lo hi : Int)
  /-- a thing that is known to the object (the script; a dict while a loop walks it): read, never written while it is so -/
  | frz (o : Obj) (u : HO)
  /-- a code object's table -/
  | tbl (ps : Array Value)
  /-- any other thing, by what is true of its one object (a def of one's own: SetO a S n := HO.ext fun h => ..) -/
  | ext (φ : Heap → Prop)

abbrev Hp := Addr → Option HO
def upd (H : Hp) (a : Addr) (o : HO) : Hp := fun b => if b = a then some o else H b
theorem upd_same {H : Hp} {a : Addr} {o : HO} : upd H a o a = some o := by unfold upd; rw [if_pos rfl]
theorem upd_ne {H : Hp} {a b : Addr} {o : HO} (h : b ≠ a) : upd H a o b = H b := by unfold upd; rw [if_neg h]
theorem upd_upd {H : Hp} {a : Addr} {o u : HO} : upd (upd H a o) a u = upd H a u := by
  funext b; unfold upd; split <;> rfl
theorem ne_of_none {H : Hp} {a b : Addr} {o : HO} (h : H a = some o) (h' : H b = none) : a ≠ b := by
  intro e; subst e; rw [h] at h'; cases h'

section
variable (P : Program) (w : World)
def ObjOk (H : Hp) (h : Heap) (a : Addr) : HO → Prop
  | .lst xs => xs.length ≤ sizeLine ∧ ∃ (its : List Value) (n : Nat), Vals xs its ∧ h.get? a = some { cls := .type "list", data := .seq its.toArray n }
  | .tup xs => xs.length ≤ sizeLine ∧ ∃ its : List Value, Vals xs its ∧ IsTup h a its.toArray
  | .dK kvs => kvs.length ≤ sizeLine ∧ (a == sysModules) = false ∧ ∃ vs, KV kvs vs ∧ h.DictOf (mixKind P w) a vs
  | .dT kvs => kvs.length ≤ sizeLine ∧ (a == sysModules) = false ∧ ∃ xs : List (List Key × Addr × Value),
      Paired (fun (p : List Key × V) (q : List Key × Addr × Value) => p.1 = q.1 ∧ H q.2.1 = some (.tup (p.1.map kV)) ∧ RelV p.2 q.2.2) kvs xs ∧
      ∃ o es ep, h.get? a = some o ∧ o.ExactDict ∧ o.data = .dict es ep ∧ es.toList = xs.map (entryOfKey (tupleKind (mixKind P w))) ∧ (xs.map (·.1)).Nodup
  | .set S n => h.SetOf (intKind P w) a S n
  | .ins C dx fs => H dx = some (.own a) ∧ fs.length ≤ 1000 ∧ dx ≠ a ∧ h.get? a = some (PySem.W.instObj C dx) ∧
      ∃ mA, h.Ns1 dx mA ∧ (∀ f, RelO (fs.lookup f) (mA f)) ∧ PySem.Within mA (fs.map (·.1))
  | .own _ => ∃ o, h.get? a = some o
  | .xd fs => ∃ mA, h.Ns1 a mA ∧ ∀ f, RelO (fs.lookup f) (mA f)
  | .rng lo hi => ∃ t u v, h.get? a = some { cls := .type "range", data := .fields #[.int lo t, .int hi u, .int 1 v] }
  | .frz o u => h.get? a = some o ∧ ObjOk H h a u
  | .tbl ps => h.get? a = some { cls := .none, data := .fields ps }
  | .met f x => h.get? a = some (PySem.W.methodObj (.ref f) (.ref x))
  | .ext φ => φ h ∧ (∃ o, h.get? a = some o) ∧ ∀ h1 h2 : Heap, φ h1 → (∀ o, h1.get? a = some o → h2.get? a = some o) → φ h2
/-- the abstract heap is held -/
def HOk (H : Hp) (h : Heap) : Prop := ∀ a o, H a = some o → ObjOk P w H h a o
end

section
variable {P : Program} {w : World} {H H' : Hp} {h h' : Heap} {a : Addr} {o : HO}
theorem ObjOk.lt (x : ObjOk P w H h a o) : a < h.objs.size := by
  cases o with
  | lst xs => obtain ⟨_, _, _, _, e⟩ := x; exact Heap.lt_size e
  | tup xs => obtain ⟨_, _, _, p⟩ := x; exact p.lt
  | dK kvs => obtain ⟨_, _, _, _, o, _, _, e, _⟩ := x; exact Heap.lt_size e
  | dT kvs => obtain ⟨_, _, _, _, o, _, _, e, _⟩ := x; exact Heap.lt_size e
  | set S n => obtain ⟨o, _, _, _, e, _⟩ := x; exact Heap.lt_size e
  | ins C dx fs => obtain ⟨_, _, _, e, _⟩ := x; exact Heap.lt_size e
  | own y => obtain ⟨_, e⟩ := x; exact Heap.lt_size e
  | xd fs => obtain ⟨_, ⟨_, _, _, e, _⟩, _⟩ := x; exact Heap.lt_size e
  | rng lo hi => obtain ⟨_, _, _, e⟩ := x; exact Heap.lt_size e
  | frz ob u => obtain ⟨e, _⟩ := x; exact Heap.lt_size e
  | tbl ps => exact Heap.lt_size (show h.get? a = some _ from x)
  | met f y => exact Heap.lt_size (show h.get? a = some _ from x)
  | ext φ => obtain ⟨_, ⟨_, e⟩, _⟩ := x; exact Heap.lt_size e
theorem Paired.mapP {α β : Type} {F G : α → β → Prop} : ∀ {l₁ : List α} {l₂ : List β}, Paired F l₁ l₂ → (∀ a b, F a b → G a b) → Paired G l₁ l₂
  | _, _, .nil, _ => .nil
  | _, _, .cons r t, f => .cons (f _ _ r) (Paired.mapP t f)
/-- what an object's description leans on: its own object, its own dict, the tuples -/
theorem ObjOk.stay (x : ObjOk P w H h a o) (k : ∀ b u, (b = a ∨ H b = some (.own a)) → h.get? b = some u → h'.get? b = some u)
    (ho : ∀ b, H b = some (.own a) → H' b = some (.own a)) (ht : ∀ b xs, H b = some (.tup xs) → H' b = some (.tup xs)) : ObjOk P w H' h' a o := by
  induction o with
  | lst xs => obtain ⟨z, its, n, r, e⟩ := x; exact ⟨z, its, n, r, k _ _ (.inl rfl) e⟩
  | tup xs => obtain ⟨z, its, r, ob, e, c⟩ := x; exact ⟨z, its, r, ob, k _ _ (.inl rfl) e, c⟩
  | dK kvs => obtain ⟨z, y, vs, r, ob, es, ep, e, c⟩ := x; exact ⟨z, y, vs, r, ob, es, ep, k _ _ (.inl rfl) e, c⟩
  | dT kvs =>
    obtain ⟨z, y, xs, r, ob, es, ep, e, c⟩ := x
    exact ⟨z, y, xs, Paired.mapP r fun p q z => ⟨z.1, ht _ _ z.2.1, z.2.2⟩, ob, es, ep, k _ _ (.inl rfl) e, c⟩
  | set S n => obtain ⟨ob, es, ep, t, e, c⟩ := x; exact ⟨ob, es, ep, t, k _ _ (.inl rfl) e, c⟩
  | ins C dx fs =>
    obtain ⟨d, z, ne, e, mA, ⟨od, es, ep, e2, c⟩, r⟩ := x
    exact ⟨ho _ d, z, ne, k _ _ (.inl rfl) e, mA, ⟨od, es, ep, k _ _ (.inr d) e2, c⟩, r⟩
  | own y => obtain ⟨ob, e⟩ := x; exact ⟨ob, k _ _ (.inl rfl) e⟩
  | xd fs => obtain ⟨mA, ⟨od, es, ep, e, c⟩, r⟩ := x; exact ⟨mA, ⟨od, es, ep, k _ _ (.inl rfl) e, c⟩, r⟩
  | rng lo hi => obtain ⟨t, u, v, e⟩ := x; exact ⟨t, u, v, k _ _ (.inl rfl) e⟩
  | frz ob u ih => obtain ⟨e, q⟩ := x; exact ⟨k _ _ (.inl rfl) e, ih q⟩
  | tbl ps =>
    have e : h.get? a = some { cls := .none, data := .fields ps } := x
    show h'.get? a = some { cls := .none, data := .fields ps }
    exact k a _ (.inl rfl) e
  | met f y =>
    have e : h.get? a = some (PySem.W.methodObj (.ref f) (.ref y)) := x
    show h'.get? a = some (PySem.W.methodObj (.ref f) (.ref y))
    exact k a _ (.inl rfl) e
  | ext φ => obtain ⟨p, ⟨o, e⟩, st⟩ := x; exact ⟨st _ _ p fun o q => k _ _ (.inl rfl) q, ⟨o, k _ _ (.inl rfl) e⟩, st⟩
theorem HOk.lt (x : HOk P w H h) (e : H a = some o) : a < h.objs.size := (x a o e).lt
theorem HOk.fresh (x : HOk P w H h) (e : h.objs.size ≤ a) : H a = none := by
  cases q : H a with
  | none => rfl
  | some u => exact absurd (Nat.lt_of_lt_of_le (x.lt q) e) (Nat.lt_irrefl _)
/-- every object of the heap is kept -/
theorem HOk.kept (x : HOk P w H h) (k : ∀ b u, h.get? b = some u → h'.get? b = some u) : HOk P w H h' := fun a o e =>
  (x a o e).stay (fun b u _ q => k b u q) (fun _ q => q) fun _ _ q => q
/-- a new object is laid and tracked -/
theorem HOk.laid (x : HOk P w H h) (k : ∀ b u, h.get? b = some u → h'.get? b = some u) (hp : h.objs.size ≤ a) (new : ObjOk P w (upd H a o) h' a o) : HOk P w (upd H a o) h' := fun b u e => by
  have hn := x.fresh hp
  by_cases hb : b = a
  · subst hb; rw [upd_same] at e; cases e; exact new
  · rw [upd_ne hb] at e
    exact (x b u e).stay (fun c v _ q => k c v q) (fun c q => by rw [upd_ne (ne_of_none q hn)]; exact q) fun c xs q => by rw [upd_ne (ne_of_none q hn)]; exact q
end

/-- what may be read as u: it is u, or a known u -/
def Rd (H : Hp) (a : Addr) (u : HO) : Prop := H a = some u ∨ ∃ o, H a = some (.frz o u)
theorem Rd.ok {P : Program} {w : World} {H : Hp} {h : Heap} {a : Addr} {u : HO} (r : Rd H a u) (x : HOk P w H h) : ObjOk P w H h a u := by
  rcases r with r | ⟨o, r⟩
  · exact x a u r
  · obtain ⟨_, q⟩ := x a _ r
    exact q
/-- what may be written -/
def Mut : Option HO → Prop
  | some (.lst _) => True
  | some (.dK _) => True
  | some (.dT _) => True
  | some (.set _ _) => True
  | some (.ins _ _ _) => True
  | some (.ext _) => True
  | _ => False
section
variable {P : Program} {w : World} {H : Hp} {h h' : Heap} {x e : Addr} {o' : HO}
/-- the object at e is changed: x itself, or the dict of the instance x -/
theorem HOk.write (ok : HOk P w H h) (mu : Mut (H x)) (he : e = x ∨ H e = some (.own x)) (k : ∀ b u, b ≠ e → h.get? b = some u → h'.get? b = some u) (heo : ∃ u, h'.get? e = some u)
    (new : ObjOk P w (upd H x o') h' x o') : HOk P w (upd H x o') h' := fun b u q => by
  have nown : ∀ c y, H c = some (.own y) → c ≠ x := fun c y r z => by subst z; rw [r] at mu; exact mu
  have ntup : ∀ c xs, H c = some (.tup xs) → c ≠ x := fun c xs r z => by subst z; rw [r] at mu; exact mu
  by_cases hb : b = x
  · subst hb; rw [upd_same] at q; cases q; exact new
  · rw [upd_ne hb] at q
    by_cases hbe : b = e
    · have q' : H b = some (.own x) := by
        rcases he with z | z
        · exact absurd (hbe.trans z) hb
        · rw [hbe]; exact z
      rw [q] at q'; cases q'
      obtain ⟨v, hv⟩ := heo
      exact ⟨v, by rw [hbe]; exact hv⟩
    · refine (ok b u q).stay (fun c v hc r => k c v ?_ r) (fun c r => by rw [upd_ne (nown c b r)]; exact r) fun c xs r => by rw [upd_ne (ntup c xs r)]; exact r
      rcases hc with rfl | hc
      · exact hbe
      · rintro rfl
        rcases he with z | z
        · exact nown c b hc z
        · rw [hc] at z; cases z; exact hb rfl
end

/-! ### kept unless tracked; of the frames at fs (the callers') the slots may change (an exception that passes writes there); of the records at ex (iterators) nothing is said -/
structure Un (fs ex : List Addr) (H H' : Hp) (h h' : Heap) : Prop where
  keep : ∀ b o, h.get? b = some o → H b = none → b ∉ fs → b ∉ ex → h'.get? b = some o
  slot : ∀ b o, h.get? b = some o → H b = none → b ∈ fs → b ∉ ex → ∃ sl, h'.get? b = some { o with slots := sl }
  free : ∀ b o, h.get? b = some o → H b = none → b ∉ ex → H' b = none
  there : ∀ b o, h.get? b = some o → b ∉ ex → ∃ o', h'.get? b = some o'
  tups : ∀ b xs, H b = some (.tup xs) → H' b = some (.tup xs)
  frzs : ∀ b o u, H b = some (.frz o u) → H' b = some (.frz o u)
  tbls : ∀ b ps, H b = some (.tbl ps) → ∃ more, H' b = some (.tbl (ps ++ more))
section
variable {fs fs' ex ex' : List Addr} {H H1 H2 : Hp} {h h1 h2 h' : Heap} {a x e : Addr} {o : HO}
theorem Un.any (u : Un fs ex H H1 h h1) {b : Addr} {ob : Obj} (q : h.get? b = some ob) (n : H b = none) (hx : b ∉ ex) : ∃ sl, h1.get? b = some { ob with slots := sl } := by
  by_cases hb : b ∈ fs
  · exact u.slot b ob q n hb hx
  · exact ⟨ob.slots, u.keep b ob q n hb hx⟩
theorem Un.kept (k : ∀ b u, h.get? b = some u → h'.get? b = some u) : Un fs ex H H h h' :=
  ⟨fun b ob q _ _ _ => k b ob q, fun b ob q _ _ _ => ⟨ob.slots, k b ob q⟩, fun _ _ _ n _ => n, fun b ob q _ => ⟨ob, k b ob q⟩, fun _ _ q => q, fun _ _ _ q => q, fun _ ps q => ⟨#[], by rw [q]; simp⟩⟩
theorem Un.refl : Un fs ex H H h h := Un.kept fun _ _ q => q
theorem Un.laid (k : ∀ b u, h.get? b = some u → h'.get? b = some u) (hp : h.objs.size ≤ a) (hn : H a = none) : Un fs ex H (upd H a o) h h' where
  keep := fun b u q _ _ _ => k b u q
  slot := fun b u q _ _ _ => ⟨u.slots, k b u q⟩
  free := fun b u q n _ => by rw [upd_ne (Nat.ne_of_lt (Nat.lt_of_lt_of_le (Heap.lt_size q) hp))]; exact n
  there := fun b u q _ => ⟨u, k b u q⟩
  tups := fun b xs q => by rw [upd_ne (ne_of_none q hn)]; exact q
  frzs := fun b u xs q => by rw [upd_ne (ne_of_none q hn)]; exact q
  tbls := fun b ps q => ⟨#[], by rw [upd_ne (ne_of_none q hn), q]; simp⟩
theorem Un.write (mu : Mut (H x)) (he : e = x ∨ H e = some (.own x)) (k : ∀ b u, b ≠ e → h.get? b = some u → h'.get? b = some u) (heo : ∃ u, h'.get? e = some u) : Un fs ex H (upd H x o) h h' := by
  have hx : ∀ b, H b = none → b ≠ x := fun b n z => by subst z; rw [n] at mu; exact mu
  have hb : ∀ b, H b = none → b ≠ e := fun b n z => by
    subst z
    rcases he with r | r
    · exact hx b n r
    · rw [n] at r; cases r
  have hm : ∀ b u, H b = some u → ¬ Mut (some u) → b ≠ x := fun b u q nm z => by subst z; rw [q] at mu; exact nm mu
  refine ⟨fun b u q n _ _ => k b u (hb b n) q, fun b u q n _ _ => ⟨u.slots, k b u (hb b n) q⟩, fun b u q n _ => by rw [upd_ne (hx b n)]; exact n, fun b u q _ => ?_,
    fun b xs q => by rw [upd_ne (hm b _ q fun z => z)]; exact q, fun b u xs q => by rw [upd_ne (hm b _ q fun z => z)]; exact q, fun b ps q => ⟨#[], by rw [upd_ne (hm b _ q fun z => z), q]; simp⟩⟩
  by_cases hbe : b = e
  · subst hbe; exact heo
  · exact ⟨u, k b u hbe q⟩
end

/-! ### the heap without what is tracked -/
def trk (h : Heap) (H : Hp) : List Addr := (List.range h.objs.size).filter fun a => (H a).isSome
def hidT (h : Heap) (H : Hp) : Heap := PySem.W.hideAll h (trk h H)
theorem hidT_size (h : Heap) (H : Hp) : (hidT h H).objs.size = h.objs.size := PySem.W.hideAll_size _ _
theorem hidT_get {h : Heap} {H : Hp} {b : Addr} {o : Obj} (e : h.get? b = some o) (n : H b = none) : (hidT h H).get? b = some o :=
  PySem.W.hideAll_get _ e fun hm => by
    have q : (H b).isSome = true := (List.mem_filter.mp hm).2
    rw [n] at q; simp at q
theorem of_hidT {h : Heap} {H : Hp} {b : Addr} {o : Obj} (e : (hidT h H).get? b = some o) : h.get? b = some o ∧ H b = none := by
  have e' : h.get? b = some o := PySem.W.of_hideAll (trk h H) e
  refine ⟨e', ?_⟩
  cases q : H b with
  | none => rfl
  | some x =>
    have hm : b ∈ trk h H := List.mem_filter.mpr ⟨List.mem_range.mpr (Heap.lt_size e'), by simp [q]⟩
    have z : (hidT h H).get? b = none := PySem.W.hideAll_none (trk h H) hm
    rw [z] at e; cases e

/-! ### OpenK's ledger, filled with every new object but one -/
end L2

namespace L2
open PySem PySem.Spec PyProof.Rows

/-- the module's facts, over the base: the heap at the law's entry without what is tracked there -/
structure Mod (K : PySem.W.Frag) (mg : Str → Option Value) (base : Heap) : Prop where
  kin : K.In base
  glob : base.Ns mainGlobals mg
  blt : ∃ mb, base.Ns builtinsNs mb ∧ ∀ x : Str, x ≠ "__name__" → mb x = bootBuiltins x
  nolimit : base.NoLimit

/-- the context: a def's body (or a comprehension's block) running. base: fixed through the whole law; s₀, H₀: the entry; outer: the frames whose slots others may change (a def's callers); stack: all frames that run;
   ex: iterators that were made ahead of the entry and are walked here (a comprehension's); fn: the names whose cells were made at the entry (a def: all; a comprehension's block: its own); calm: not within an except suite; pn: pins that every state bears; xe: what is wanted of an exception that leaves the code -/
structure Cx where
  prog : Program
  w : World
  K : PySem.W.Frag
  mg : Str → Option Value
  base : Heap
  A : Around
  N : List Str
  s_0 : Shared
  H_0 : Hp
  env : Env
  outer : List Env
  stack : List Env
  ex : List Addr
  fn : Str → Bool
  calm : Bool
  pn : List (Addr × Obj)
  xe : Value → Shared → Prop
/-- the callers' frames -/
def frs (l : List Env) : List Addr := l.filterMap (·.frame)
abbrev Cx.fs (X : Cx) : List Addr := frs X.outer

def Vis (sc : Scope) (x : Str) : Prop := sc.names.lookup x = some .local ∨ sc.names.lookup x = some .cell ∨ sc.names.lookup x = some .free
def Loc (sc : Scope) (x : Str) : Prop := sc.names.lookup x = some .local ∨ sc.names.lookup x = some .cell
def Look (env : Env) (h : Heap) (m : Str → Option Value) (x : Str) (u : Value) : Prop :=
  (env.kindOf x = some .local ∧ m x = some u) ∨ ((env.kindOf x = some .cell ∨ env.kindOf x = some .free) ∧ ∃ c, env.cells.lookup x = some c ∧ h.IsCell c (some u))

structure Cx.Ok (X : Cx) : Prop where
  mod : Mod X.K X.mg X.base
  kind : X.env.scope.kind = .function
  glob : X.env.globals = mainGlobals
  blt : X.env.builtins = builtinsNs
  above : X.s_0.heap.objs.size ≤ X.env.locals
  inj : ∀ x y c, X.env.cells.lookup x = some c → X.env.cells.lookup y = some c → x = y
  has : ∀ x, (X.env.kindOf x = some .cell ∨ X.env.kindOf x = some .free) → ∃ c, X.env.cells.lookup x = some c
  cab : ∀ x c, X.fn x = true → X.env.cells.lookup x = some c → X.s_0.heap.objs.size ≤ c
  hd : X.calm = true → X.A.handled = none
  frames : X.A.frames = some X.stack
  stk : X.stack = X.outer ∨ (X.stack = X.env :: X.outer ∧ X.env.frame = some X.env.locals)
  exf : ∀ b ∈ X.ex, b ≠ X.env.locals ∧ ∀ x c, X.env.cells.lookup x = some c → c ≠ b
  bs : ∀ b o, X.base.get? b = some o → X.s_0.heap.get? b = some o ∧ X.H_0 b = none
  bsz : X.base.objs.size ≤ X.s_0.heap.objs.size
  noex : ∀ b o, X.base.get? b = some o → b ∉ X.ex
  exfs : ∀ b ∈ X.ex, b ∉ X.fs
  funs : X.s_0.heap.FunFrames X.base X.outer
  frf : ∀ b ∈ X.fs, X.H_0 b = none

structure Inv (X : Cx) (pins : List (Addr × Obj)) (σ : List (Option V)) (H : Hp) (s : Shared) : Prop where
  ok : X.Ok
  os : s.os = X.s_0.os
  bare : AllBare s.gens
  base : Un X.fs X.ex X.H_0 H X.s_0.heap s.heap
  loc : ∃ m, s.heap.Ns X.env.locals m ∧ ∀ (i : Nat) (x : Str) (v : V), X.N[i]? = some x → σ[i]? = some (some v) → Vis X.env.scope x → ∃ u, RelV v u ∧ Look X.env s.heap m x u
  cell : ∀ x c, X.env.cells.lookup x = some c → ∃ v, s.heap.IsCell c v
  free : H X.env.locals = none
  freeC : ∀ x c, X.env.cells.lookup x = some c → H c = none
  pin : ∀ p ∈ X.pn ++ pins, s.heap.get? p.1 = some p.2 ∧ H p.1 = none ∧ p.1 ≠ X.env.locals ∧ p.1 ∉ X.fs ∧ ∀ v, p.2.data ≠ .cell v
  hok : HOk X.prog X.w H s.heap
  len : σ.length = X.N.length

section
variable {X : Cx} {pins : List (Addr × Obj)} {σ : List (Option V)} {H H' : Hp} {s : Shared} {h' : Heap}

theorem Cx.Ok.nofr (ok : X.Ok) {b : Addr} {o : Obj} (e : X.base.get? b = some o) : b ∉ X.fs := fun hb => by
  have := (ok.funs.mem hb).1
  rw [e] at this; cases this
theorem Inv.bs (I : Inv X pins σ H s) : ∀ b o, X.base.get? b = some o → s.heap.get? b = some o ∧ H b = none := fun b o e =>
  ⟨I.base.keep b o (I.ok.bs b o e).1 (I.ok.bs b o e).2 (I.ok.nofr e) (I.ok.noex b o e), I.base.free b o (I.ok.bs b o e).1 (I.ok.bs b o e).2 (I.ok.noex b o e)⟩
theorem Inv.bk (I : Inv X pins σ H s) : ∀ b o, X.base.get? b = some o → s.heap.get? b = some o := fun b o e => (I.bs b o e).1
theorem Inv.mod (I : Inv X pins σ H s) : Mod X.K X.mg X.base := I.ok.mod
theorem Inv.kIn (I : Inv X pins σ H s) : X.K.In s.heap := I.ok.mod.kin.keeps I.bk
theorem Inv.lt (I : Inv X pins σ H s) : X.env.locals < s.heap.objs.size := let ⟨_, hn, _⟩ := I.loc; hn.lt
theorem Inv.sz (I : Inv X pins σ H s) : X.s_0.heap.objs.size ≤ s.heap.objs.size := Nat.le_trans I.ok.above (Nat.le_of_lt I.lt)
theorem Inv.nofs (I : Inv X pins σ H s) {a : Addr} (h : s.heap.objs.size ≤ a) : a ∉ X.fs := fun hb => by
  obtain ⟨_, o, ho, _⟩ := I.ok.funs.mem hb
  exact absurd (Nat.lt_of_lt_of_le (Heap.lt_size ho) (Nat.le_trans I.sz h)) (Nat.lt_irrefl _)
theorem Inv.cne (I : Inv X pins σ H s) : ∀ x c, X.env.cells.lookup x = some c → c ≠ X.env.locals := fun x c e z => by
  obtain ⟨v, o, ho, hd⟩ := I.cell x c e
  obtain ⟨m, ⟨o', es, ep, ho', hd', _⟩, _⟩ := I.loc
  rw [z, ho'] at ho; cases ho; rw [hd'] at hd; cases hd
theorem Inv.funs (I : Inv X pins σ H s) : s.heap.FunFrames X.base X.outer := by
  have all : ∀ (l : List Env), (∀ b ∈ frs l, b ∈ X.fs) → X.s_0.heap.FunFrames X.base l → s.heap.FunFrames X.base l := by
    intro l
    induction l with
    | nil => intro _ _; trivial
    | cons env r ih =>
      intro hs hl
      obtain ⟨hk, ⟨L, o, hf, hn, ho, hd⟩, hr⟩ := hl
      have hL : L ∈ X.fs := hs L (by unfold frs; rw [List.filterMap_cons, hf]; exact List.mem_cons_self)
      obtain ⟨sl, e⟩ := I.base.slot L o ho (I.ok.frf L hL) hL fun z => I.ok.exfs L z hL
      exact ⟨hk, ⟨L, _, hf, hn, e, hd⟩, ih (fun b hb => hs b (by unfold frs; rw [List.filterMap_cons, hf]; exact List.mem_cons_of_mem _ hb)) hr⟩
  exact all X.outer (fun _ hb => hb) I.ok.funs

/-- the frames that run, for a call -/
theorem Inv.stack (I : Inv X pins σ H s) : s.heap.FunFrames X.base X.stack := by
  rcases I.ok.stk with e | ⟨e, hf⟩
  · rw [e]; exact I.funs
  · rw [e]
    obtain ⟨m, hn, _⟩ := I.loc
    refine .cons (by rw [I.ok.kind]; decide) hf hn ?_ I.funs
    exact Heap.get?_none_of_le (Nat.le_trans I.ok.bsz I.ok.above)
theorem Inv.stkSub (I : Inv X pins σ H s) : ∀ b ∈ frs X.stack, b ∈ X.env.locals :: X.fs := fun b hb => by
  rcases I.ok.stk with e | ⟨e, hf⟩
  · rw [e] at hb; exact List.mem_cons_of_mem _ hb
  · rw [e] at hb
    unfold frs at hb
    rw [List.filterMap_cons, hf] at hb
    exact hb
theorem Inv.stkFree (I : Inv X pins σ H s) : ∀ b ∈ frs X.stack, H b = none := fun b hb => by
  rcases List.mem_cons.mp (I.stkSub b hb) with e | hb
  · rw [e]; exact I.free
  · obtain ⟨_, o, ho, _⟩ := I.ok.funs.mem hb
    exact I.base.free b o ho (I.ok.frf b hb) fun z => I.ok.exfs b z hb

/-- THE STEP: the untracked objects but the frame and the records at ch are kept (the callers' frames up to slots), the frame's map is kept, the new abstract heap is held -/
theorem Inv.step {g' : Array GenState} {t' : Nat} {d' : Drawn} {ch : List Addr} (I : Inv X pins σ H s)
    (hch : ∀ b ∈ ch, (b ∈ X.ex ∨ X.s_0.heap.objs.size ≤ b) ∧ b ≠ X.env.locals ∧ (∀ x c, X.env.cells.lookup x = some c → c ≠ b) ∧ ∀ p ∈ X.pn ++ pins, p.1 ≠ b)
    (keep : ∀ b o, b ≠ X.env.locals → b ∉ X.fs → b ∉ ch → s.heap.get? b = some o → H b = none → h'.get? b = some o)
    (slot : ∀ b o, b ≠ X.env.locals → b ∈ X.fs → b ∉ ch → s.heap.get? b = some o → H b = none → ∃ sl, h'.get? b = some { o with slots := sl }) (free : ∀ b o, b ∉ ch → s.heap.get? b = some o → H b = none → H' b = none)
    (there : ∀ b o, b ∉ ch → s.heap.get? b = some o → ∃ o', h'.get? b = some o')
    (tups : ∀ b xs, H b = some (.tup xs) → H' b = some (.tup xs)) (frzs : ∀ b o u, H b = some (.frz o u) → H' b = some (.frz o u)) (tbls : ∀ b ps, H b = some (.tbl ps) → ∃ more, H' b = some (.tbl (ps ++ more)))
    (ns : ∀ m, s.heap.Ns X.env.locals m → h'.Ns X.env.locals m) (hok : HOk X.prog X.w H' h') (hg : AllBare g') :
    Inv X pins σ H' { s with heap := h', gens := g', drawn := d', toks := t' } := by
  have neL : ∀ b o, X.s_0.heap.get? b = some o → b ≠ X.env.locals := fun b o e => Nat.ne_of_lt (Nat.lt_of_lt_of_le (Heap.lt_size e) I.ok.above)
  have neC : ∀ b o, X.s_0.heap.get? b = some o → b ∉ X.ex → b ∉ ch := fun b o e hx hb => by
    rcases (hch b hb).1 with z | z
    · exact hx z
    · exact absurd (Nat.lt_of_lt_of_le (Heap.lt_size e) z) (Nat.lt_irrefl _)
  have cellK : ∀ x c, X.env.cells.lookup x = some c → ∀ v, s.heap.IsCell c v → h'.IsCell c v := fun x c e v ⟨o, ho, hd⟩ => by
    have nch : c ∉ ch := fun z => (hch c z).2.2.1 x c e rfl
    by_cases hc : c ∈ X.fs
    · obtain ⟨sl, q⟩ := slot c o (I.cne x c e) hc nch ho (I.freeC x c e)
      exact ⟨_, q, hd⟩
    · exact ⟨o, keep c o (I.cne x c e) hc nch ho (I.freeC x c e), hd⟩
  refine ⟨I.ok, I.os, hg, ⟨fun b o e n hb hx => ?_, fun b o e n hb hx => ?_, fun b o e n hx => ?_, fun b o e hx => ?_, fun b xs e => tups b xs (I.base.tups b xs e), fun b o xs e => frzs b o xs (I.base.frzs b o xs e), fun b ps e => ?_⟩, ?_, fun x c e => ?_, ?_, fun x c e => ?_, fun p hp => ?_, hok, I.len⟩
  · exact keep b o (neL b o e) hb (neC b o e hx) (I.base.keep b o e n hb hx) (I.base.free b o e n hx)
  · obtain ⟨sl, e1⟩ := I.base.slot b o e n hb hx
    obtain ⟨sl', e2⟩ := slot b _ (neL b o e) hb (neC b o e hx) e1 (I.base.free b o e n hx)
    exact ⟨sl', e2⟩
  · obtain ⟨o', e1⟩ := I.base.there b o e hx
    exact free b o' (neC b o e hx) e1 (I.base.free b o e n hx)
  · obtain ⟨o', e1⟩ := I.base.there b o e hx
    exact there b o' (neC b o e hx) e1
  · obtain ⟨m1, e1⟩ := I.base.tbls b ps e
    obtain ⟨m2, e2⟩ := tbls b _ e1
    exact ⟨m1 ++ m2, by rw [e2, Array.append_assoc]⟩
  · obtain ⟨m, hn, hl⟩ := I.loc
    refine ⟨m, ns m hn, fun i x v e1 e2 e3 => ?_⟩
    obtain ⟨u, r, l⟩ := hl i x v e1 e2 e3
    refine ⟨u, r, ?_⟩
    rcases l with l | ⟨k, c, e, z⟩
    · exact .inl l
    · exact .inr ⟨k, c, e, cellK x c e _ z⟩
  · obtain ⟨v, z⟩ := I.cell x c e
    exact ⟨v, cellK x c e v z⟩
  · obtain ⟨m, ⟨o, _, _, ho, _⟩, _⟩ := I.loc
    exact free _ o (fun z => (hch _ z).2.1 rfl) ho I.free
  · obtain ⟨v, o, ho, hd⟩ := I.cell x c e
    exact free c o (fun z => (hch c z).2.2.1 x c e rfl) ho (I.freeC x c e)
  · obtain ⟨e, n, ne, nf, d⟩ := I.pin p hp
    have nch : p.1 ∉ ch := fun z => (hch p.1 z).2.2.2 p hp rfl
    exact ⟨keep p.1 p.2 ne nf nch e n, free p.1 p.2 nch e n, ne, nf, d⟩
/-- .. where the frame's own object is kept too -/
theorem Inv.un {t' : Nat} (I : Inv X pins σ H s) (u : Un X.fs [] H H' s.heap h') (hok : HOk X.prog X.w H' h') : Inv X pins σ H' { s with heap := h', toks := t' } := by
  obtain ⟨m, ⟨o, es, ep, ho, r⟩, _⟩ := id I.loc
  obtain ⟨sl, hL⟩ := u.any ho I.free (by simp)
  exact I.step (g' := s.gens) (d' := s.drawn) (ch := []) (fun _ z => nomatch z) (fun b o _ hb _ e n => u.keep b o e n hb (by simp)) (fun b o _ hb _ e n => u.slot b o e n hb (by simp)) (fun b o _ e n => u.free b o e n (by simp)) (fun b o _ e => u.there b o e (by simp)) u.tups u.frzs u.tbls (fun m' hm => by
    obtain ⟨o', es', ep', ho', r'⟩ := hm
    rw [ho] at ho'; cases ho'
    exact ⟨_, es', ep', hL, r'⟩) hok I.bare
/-- behind a call (or a comprehension's block): the slots of this frame may have changed too, the records at ch may have turned -/
theorem Inv.call {g' : Array GenState} {t' : Nat} {d' : Drawn} {ch : List Addr} (I : Inv X pins σ H s) (u : Un (frs X.stack) ch H H' s.heap h') (hok : HOk X.prog X.w H' h') (hg : AllBare g')
    (hch : ∀ b ∈ ch, (b ∈ X.ex ∨ X.s_0.heap.objs.size ≤ b) ∧ b ≠ X.env.locals ∧ (∀ x c, X.env.cells.lookup x = some c → c ≠ b) ∧ ∀ p ∈ X.pn ++ pins, p.1 ≠ b) :
    Inv X pins σ H' { s with heap := h', gens := g', drawn := d', toks := t' } := by
  obtain ⟨m, ⟨o, es, ep, ho, r⟩, _⟩ := id I.loc
  obtain ⟨sl, hL⟩ := u.any ho I.free fun z => (hch _ z).2.1 rfl
  exact I.step (ch := ch) hch (fun b o hL hb hc e n => u.keep b o e n (fun z => (List.mem_cons.mp (I.stkSub b z)).elim hL hb) hc) (fun b o _ _ hc e n => u.any e n hc) (fun b o hc e n => u.free b o e n hc) (fun b o hc e => u.there b o e hc) u.tups u.frzs u.tbls (fun m' hm => by
    obtain ⟨o', es', ep', ho', r'⟩ := hm
    rw [ho] at ho'; cases ho'
    exact ⟨_, es', ep', hL, r'⟩) hok hg
/-- an untracked record of ours (an iterator) has turned -/
theorem Inv.turned {t' : Nat} {it : Addr} (I : Inv X pins σ H s) (k : ∀ b o, b ≠ it → s.heap.get? b = some o → h'.get? b = some o) (hn : H it = none) (hL : it ≠ X.env.locals)
    (h1 : it ∈ X.ex ∨ X.s_0.heap.objs.size ≤ it) (h2 : ∀ x c, X.env.cells.lookup x = some c → c ≠ it) (h3 : ∀ p ∈ X.pn ++ pins, p.1 ≠ it) : Inv X pins σ H { s with heap := h', toks := t' } := by
  have nit : ∀ b u, H b = some u → b ≠ it := fun b u e z => by rw [z, hn] at e; cases e
  refine I.step (g' := s.gens) (d' := s.drawn) (ch := [it]) (fun b hb => ?_) (fun b o _ _ hc e _ => k b o (fun z => hc (by simp [z])) e) (fun b o _ _ hc e _ => ⟨o.slots, k b o (fun z => hc (by simp [z])) e⟩) (fun _ _ _ _ n => n)
    (fun b o hc e => ⟨o, k b o (fun z => hc (by simp [z])) e⟩) (fun _ _ e => e) (fun _ _ _ e => e) (fun b ps e => ⟨#[], by rw [e]; simp⟩) (fun m hm => ?_) (fun b u e => ?_) I.bare
  · have e : b = it := by simpa using hb
    subst e
    exact ⟨h1, hL, h2, h3⟩
  · obtain ⟨o, es, ep, ho, r⟩ := hm
    exact ⟨o, es, ep, k _ o (Ne.symm hL) ho, r⟩
  · refine (I.hok b u e).stay (fun c v hc q => k c v ?_ q) (fun _ q => q) fun _ _ q => q
    rcases hc with z | z
    · rw [z]; exact nit b u e
    · exact nit c _ z
theorem Inv.tok (I : Inv X pins σ H s) (t : Nat) : Inv X pins σ H { s with toks := t } := I.un (h' := s.heap) (t' := t) Un.refl I.hok
/-- all objects kept -/
theorem Inv.kept {t' : Nat} (I : Inv X pins σ H s) (k : ∀ b u, s.heap.get? b = some u → h'.get? b = some u) : Inv X pins σ H { s with heap := h', toks := t' } := I.un (Un.kept k) (I.hok.kept k)
/-- a new object laid and tracked -/
theorem Inv.laid {a : Addr} {o : HO} {t' : Nat} (I : Inv X pins σ H s) (k : ∀ b u, s.heap.get? b = some u → h'.get? b = some u) (hp : s.heap.objs.size ≤ a) (new : ObjOk X.prog X.w (upd H a o) h' a o) :
    Inv X pins σ (upd H a o) { s with heap := h', toks := t' } := I.un (Un.laid k hp (I.hok.fresh hp)) (I.hok.laid k hp new)
/-- an object written -/
theorem Inv.write {x e : Addr} {o : HO} {t' : Nat} (I : Inv X pins σ H s) (mu : Mut (H x)) (he : e = x ∨ H e = some (.own x)) (k : ∀ b u, b ≠ e → s.heap.get? b = some u → h'.get? b = some u) (heo : ∃ u, h'.get? e = some u)
    (new : ObjOk X.prog X.w (upd H x o) h' x o) : Inv X pins σ (upd H x o) { s with heap := h', toks := t' } := I.un (Un.write mu he k heo) (I.hok.write mu he k heo new)
/-- forgetting slots, pins -/
theorem Inv.weak {σ' : List (Option V)} (I : Inv X pins σ H s) (hl : σ'.length = σ.length) (w : ∀ (i : Nat) v, σ'[i]? = some (some v) → σ[i]? = some (some v)) : Inv X pins σ' H s :=
  ⟨I.ok, I.os, I.bare, I.base, let ⟨m, hn, hl'⟩ := I.loc; ⟨m, hn, fun i x v e1 e2 e3 => hl' i x v e1 (w i v e2) e3⟩, I.cell, I.free, I.freeC, I.pin, I.hok, hl.trans I.len⟩
theorem Inv.pins_of {pins' : List (Addr × Obj)} (I : Inv X pins σ H s) (h : ∀ p ∈ pins', s.heap.get? p.1 = some p.2 ∧ H p.1 = none ∧ p.1 ≠ X.env.locals ∧ p.1 ∉ X.fs ∧ ∀ v, p.2.data ≠ .cell v) : Inv X pins' σ H s :=
  ⟨I.ok, I.os, I.bare, I.base, I.loc, I.cell, I.free, I.freeC, fun p hp => (List.mem_append.mp hp).elim (fun z => I.pin p (List.mem_append_left _ z)) (h p), I.hok, I.len⟩

theorem nodup_ix {N : List Str} (hN : N.Nodup) {i j : Nat} {x : Str} (a : N[i]? = some x) (b : N[j]? = some x) : i = j := by
  obtain ⟨h1, e1⟩ := List.getElem?_eq_some_iff.mp a
  obtain ⟨h2, e2⟩ := List.getElem?_eq_some_iff.mp b
  exact (List.getElem_inj hN).mp (e1.trans e2.symm)

/-- a name is stored; what changed -/
theorem store_ok2 {M : Model} {A : Around} {E : Value → Shared → Prop} {i : Nat} {x : Str} {v : V} {u : Value} {Q : Unit → Shared → Prop} (I : Inv X pins σ H s) (hN : X.N.Nodup) (hi : X.N[i]? = some x) (hx : Loc X.env.scope x) (r : RelV v u)
    (h : ∀ s', Inv X pins (σ.set i (some v)) H s' → (∃ a, Heap.SameBut a s.heap s'.heap ∧ (a = X.env.locals ∨ X.env.cells.lookup x = some a)) → Q () s') (hf : X.fn x = true ∨ X.env.scope.names.lookup x = some .local := by first | exact .inl rfl | exact .inr rfl | assumption) : wpAny M A (storeName X.env x u) Q E s := by
  obtain ⟨m, hn, hl⟩ := id I.loc
  have hcls : (X.env.scope.kind == .class || (X.env.scope.kind == .module && X.env.locals != X.env.globals)) = false := by rw [I.ok.kind]; rfl
  have hiσ : i < σ.length := by rw [I.len]; exact (List.getElem?_eq_some_iff.mp hi).1
  have cne := I.cne
  have tracked : ∀ {a : Addr} {h' : Heap}, (∃ o, s.heap.get? a = some o ∧ H a = none) → Heap.SameBut a s.heap h' → HOk X.prog X.w H h' := fun {a h'} ha hs b ob e => by
    obtain ⟨_, _, hfree⟩ := ha
    refine (I.hok b ob e).stay (fun c w' hc q => (hs.2 c ?_).trans q) (fun _ q => q) fun _ _ q => q
    rintro rfl
    rcases hc with rfl | hc
    · rw [hfree] at e; cases e
    · rw [hfree] at hc; cases hc
  rcases hx with hk | hk
  · refine wpAny_storeName_local hk hn (fun h' hn' hs => ?_) hcls
    obtain ⟨oL, _, _, hoL, _⟩ := id hn
    refine h _ ⟨I.ok, I.os, I.bare, ⟨fun b o e n hb hx => ?_, fun b o e n hb hx => ?_, I.base.free, fun b o e hx => ?_, I.base.tups, I.base.frzs, I.base.tbls⟩, ⟨_, hn', fun j y v' e1 e2 e3 => ?_⟩, fun y c e => ?_, I.free, I.freeC, fun p hp => ?_, tracked ⟨oL, hoL, I.free⟩ hs, by simpa using I.len⟩ ⟨_, hs, .inl rfl⟩
    · exact (hs.2 b (Nat.ne_of_lt (Nat.lt_of_lt_of_le (Heap.lt_size e) I.ok.above))).trans (I.base.keep b o e n hb hx)
    · obtain ⟨sl, e1⟩ := I.base.slot b o e n hb hx
      exact ⟨sl, (hs.2 b (Nat.ne_of_lt (Nat.lt_of_lt_of_le (Heap.lt_size e) I.ok.above))).trans e1⟩
    · obtain ⟨o', e1⟩ := I.base.there b o e hx
      exact ⟨o', (hs.2 b (Nat.ne_of_lt (Nat.lt_of_lt_of_le (Heap.lt_size e) I.ok.above))).trans e1⟩
    · by_cases hj : j = i
      · subst hj
        rw [hi] at e1; cases e1
        rw [List.getElem?_set_self hiσ] at e2
        cases e2
        exact ⟨u, r, .inl ⟨hk, by simp⟩⟩
      · rw [List.getElem?_set_ne (Ne.symm hj)] at e2
        obtain ⟨u', r', q⟩ := hl j y v' e1 e2 e3
        refine ⟨u', r', ?_⟩
        rcases q with ⟨k, e⟩ | ⟨k, c, e, z⟩
        · refine .inl ⟨k, ?_⟩
          have : y ≠ x := fun e => hj (nodup_ix hN e1 (e ▸ hi))
          simp [this, e]
        · exact .inr ⟨k, c, e, z.sameBut hs (cne y c e)⟩
    · obtain ⟨w', z⟩ := I.cell y c e
      exact ⟨w', z.sameBut hs (cne y c e)⟩
    · obtain ⟨e, n, ne, nf, d⟩ := I.pin p hp
      exact ⟨(hs.2 p.1 ne).trans e, n, ne, nf, d⟩
  · have hfn : X.fn x = true := by
      rcases hf with z | z
      · exact z
      · rw [z] at hk; cases hk
    obtain ⟨c, hc⟩ := I.ok.has x (.inl hk)
    obtain ⟨w', z⟩ := I.cell x c hc
    refine wpAny_storeName_cell I.ok.kind hk hc z (fun h' hc' hs => ?_)
    obtain ⟨oc, hoc, hocd⟩ := id z
    refine h { s with heap := h' } ⟨I.ok, I.os, I.bare, ⟨fun b o e n hb hx => ?_, fun b o e n hb hx => ?_, I.base.free, fun b o e hx => ?_, I.base.tups, I.base.frzs, I.base.tbls⟩, ⟨m, hn.sameBut hs (Ne.symm (cne x c hc)), fun j y v' e1 e2 e3 => ?_⟩, fun y c' e => ?_, I.free, I.freeC, fun p hp => ?_, tracked ⟨oc, hoc, I.freeC x c hc⟩ hs, by simpa using I.len⟩ ⟨c, hs, .inr hc⟩
    · exact (hs.2 b (Nat.ne_of_lt (Nat.lt_of_lt_of_le (Heap.lt_size e) (I.ok.cab x c hfn hc)))).trans (I.base.keep b o e n hb hx)
    · obtain ⟨sl, e1⟩ := I.base.slot b o e n hb hx
      exact ⟨sl, (hs.2 b (Nat.ne_of_lt (Nat.lt_of_lt_of_le (Heap.lt_size e) (I.ok.cab x c hfn hc)))).trans e1⟩
    · obtain ⟨o', e1⟩ := I.base.there b o e hx
      exact ⟨o', (hs.2 b (Nat.ne_of_lt (Nat.lt_of_lt_of_le (Heap.lt_size e) (I.ok.cab x c hfn hc)))).trans e1⟩
    · by_cases hj : j = i
      · subst hj
        rw [hi] at e1; cases e1
        rw [List.getElem?_set_self hiσ] at e2
        cases e2
        exact ⟨u, r, .inr ⟨.inl hk, c, hc, hc'⟩⟩
      · rw [List.getElem?_set_ne (Ne.symm hj)] at e2
        obtain ⟨u', r', q⟩ := hl j y v' e1 e2 e3
        refine ⟨u', r', ?_⟩
        rcases q with q | ⟨k, c', e, z'⟩
        · exact .inl q
        · refine .inr ⟨k, c', e, z'.sameBut hs ?_⟩
          rintro rfl
          exact hj (nodup_ix hN e1 (I.ok.inj _ _ _ e hc ▸ hi))
    · by_cases hcc : c' = c
      · subst hcc; exact ⟨_, hc'⟩
      · obtain ⟨w2, z2⟩ := I.cell y c' e
        exact ⟨w2, z2.sameBut hs hcc⟩
    · obtain ⟨e, n, ne, nf, d⟩ := I.pin p hp
      refine ⟨(hs.2 p.1 ?_).trans e, n, ne, nf, d⟩
      intro q
      rw [q, hoc] at e
      have q' : oc = p.2 := Option.some.inj e
      exact d w' (by rw [← q']; exact hocd)
theorem store_ok {M : Model} {A : Around} {E : Value → Shared → Prop} {i : Nat} {x : Str} {v : V} {u : Value} {Q : Unit → Shared → Prop} (I : Inv X pins σ H s) (hN : X.N.Nodup) (hi : X.N[i]? = some x) (hx : Loc X.env.scope x) (r : RelV v u)
    (h : ∀ s', Inv X pins (σ.set i (some v)) H s' → Q () s') (hf : X.fn x = true ∨ X.env.scope.names.lookup x = some .local := by first | exact .inl rfl | exact .inr rfl | assumption) : wpAny M A (storeName X.env x u) Q E s :=
  store_ok2 I hN hi hx r (fun s' I' _ => h s' I') hf
/-- behind a call or a block, the state as it is -/
theorem Inv.call' {s' : Shared} {ch : List Addr} (I : Inv X pins σ H s) (ho : s'.os = s.os) (u : Un (frs X.stack) ch H H' s.heap s'.heap) (hok : HOk X.prog X.w H' s'.heap) (hg : AllBare s'.gens)
    (hch : ∀ b ∈ ch, (b ∈ X.ex ∨ X.s_0.heap.objs.size ≤ b) ∧ b ≠ X.env.locals ∧ (∀ x c, X.env.cells.lookup x = some c → c ≠ b) ∧ ∀ p ∈ X.pn ++ pins, p.1 ≠ b) : Inv X pins σ H' s' := by
  obtain ⟨h', g', d', t', o'⟩ := s'
  have e : o' = s.os := ho
  subst e
  exact I.call (g' := g') (t' := t') (d' := d') u hok hg hch
end

/-! ### the judgements -/
/-- an exception: its class, its own dict's address (where it has one), the abstract heap behind it -/
abbrev XK := Value → Option Addr → Hp → Prop
abbrev St := List (Option V)
abbrev VK := V → Hp → Prop
/-- an expression's reading; a test's; an argument list's -/
abbrev TE := St → Hp → VK → Prop
abbrev TT := St → Hp → (Bool → Hp → Prop) → Prop
abbrev TA := St → Hp → (List V → Hp → Prop) → Prop
/-- what is wanted behind a statement -/
structure Ends where
  nx : St → Hp → Prop
  rt : VK
  bk : St → Hp → Prop := fun _ _ => False
  ct : St → Hp → Prop := fun _ _ => False
abbrev TS := Ends → St → Hp → Prop

def EP (X : Cx) (pins : List (Addr × Obj)) (σ : St) (Q : VK) (u : Value) (s' : Shared) : Prop := ∃ v H', Inv X pins σ H' s' ∧ RelV v u ∧ Q v H'
def TP (X : Cx) (pins : List (Addr × Obj)) (σ : St) (Q : Bool → Hp → Prop) (b : Bool) (s' : Shared) : Prop := ∃ H', Inv X pins σ H' s' ∧ Q b H'
def AP (X : Cx) (pins : List (Addr × Obj)) (σ : St) (Q : List V → Hp → Prop) (us : List Value) (s' : Shared) : Prop := ∃ vs H', Inv X pins σ H' s' ∧ Vals vs us ∧ Q vs H'
def SP (X : Cx) (pins : List (Addr × Obj)) (D : Ends) (f : Flow) (s' : Shared) : Prop :=
  match f with
  | .next => ∃ σ' H', Inv X pins σ' H' s' ∧ D.nx σ' H'
  | .brk => ∃ σ' H', Inv X pins σ' H' s' ∧ D.bk σ' H'
  | .cont => ∃ σ' H', Inv X pins σ' H' s' ∧ D.ct σ' H'
  | .ret u => ∃ v σ' H', Inv X pins σ' H' s' ∧ RelV v u ∧ D.rt v H'

def PE (X : Cx) (e : Expr) (t : TE) : Prop :=
  ∀ (pins : List (Addr × Obj)) (s : Shared) (σ : St) (H : Hp) (Q : VK), Inv X pins σ H s → t σ H Q → wpAny (model X.prog X.w) X.A (eval e X.env) (EP X pins σ Q) X.xe s
def PT (X : Cx) (e : Expr) (t : TT) : Prop :=
  ∀ (pins : List (Addr × Obj)) (s : Shared) (σ : St) (H : Hp) (Q : Bool → Hp → Prop), Inv X pins σ H s → t σ H Q → wpAny (model X.prog X.w) X.A (isTrue e X.env (eval e X.env)) (TP X pins σ Q) X.xe s
/-- a test whatever its 'whole' is (and, or) -/
def PW (X : Cx) (e : Expr) (t : TT) : Prop :=
  ∀ (whole : Sem Value) (pins : List (Addr × Obj)) (s : Shared) (σ : St) (H : Hp) (Q : Bool → Hp → Prop), Inv X pins σ H s → t σ H Q → wpAny (model X.prog X.w) X.A (isTrue e X.env whole) (TP X pins σ Q) X.xe s
theorem PW.pt {X : Cx} {e : Expr} {t : TT} (h : PW X e t) : PT X e t := h _
/-- an argument list (no star), from the left -/
def PA (X : Cx) (es : List Expr) (t : TA) : Prop :=
  ∀ (pos : Pos) (pins : List (Addr × Obj)) (s : Shared) (σ : St) (H : Hp) (Q : List V → Hp → Prop), Inv X pins σ H s → t σ H Q → wpAny (model X.prog X.w) X.A (spliced (backTo pos (starEach es X.env))) (AP X pins σ Q) X.xe s
def PS (X : Cx) (st : Stmt) (t : TS) : Prop :=
  ∀ (pins : List (Addr × Obj)) (s : Shared) (σ : St) (H : Hp) (D : Ends), Inv X pins σ H s → t D σ H → wpAny (model X.prog X.w) X.A (exec st X.env) (SP X pins D) X.xe s
def PSs (X : Cx) (st : List Stmt) (t : TS) : Prop :=
  ∀ (pins : List (Addr × Obj)) (s : Shared) (σ : St) (H : Hp) (D : Ends), Inv X pins σ H s → t D σ H → wpAny (model X.prog X.w) X.A (execs st X.env) (SP X pins D) X.xe s
/-- weaken the end -/
theorem thn {α : Type} {t : Sem α} {Q Q' : α → Shared → Prop} {M : Model} {A : Around} {E : Value → Shared → Prop} {s : Shared} (h : wpAny M A t Q E s) (hQ : ∀ a s, Q a s → Q' a s) : wpAny M A t Q' E s := wpAny_mono h hQ fun _ _ x => x
end L2

namespace L2
open PySem PySem.Spec PyProof.Rows
section
variable {X : Cx}

/-! ### names and constants -/
def tVar (i : Nat) : TE := fun σ H Q => ∃ v, σ[i]? = some (some v) ∧ Q v H
def tC (v : V) : TE := fun _ H Q => Q v H
theorem pe_var {i : Nat} {x : Str} {pos : Pos} (hN : X.N[i]? = some x) (hv : Vis X.env.scope x) (hd : (x == ("__debug__" : Str)) = false := by decide) (hcd : (x == ("__classdict__" : Str)) = false := by decide) : PE X (.Name x pos) (tVar i) := by
  intro pins s σ H Q I h
  obtain ⟨v, e, h⟩ := h
  obtain ⟨m, hn, hl⟩ := I.loc
  obtain ⟨u, r, l⟩ := hl i x v hN e hv
  have fin : EP X pins σ Q u s := ⟨v, H, I, r, h⟩
  rcases l with ⟨hk, hm⟩ | ⟨hk, c, hc, hcell⟩
  · exact wpAny_Name (wpAny_loadName_local I.ok.kind hk hn hm fin) hd
  · rcases hk with hk | hk
    · exact wpAny_Name (wpAny_loadName_cell I.ok.kind hk hc hcell fin) hd
    · exact wpAny_Name (wpAny_loadName_free I.ok.kind hk hc hcell fin hcd) hd
theorem pe_int {i j pos} : PE X (.Constant (.int i) j pos) (tC (.int i)) := fun _ _ _ H _ I h => wpAny_Constant_int ⟨.int i, H, I.tok _, ⟨_, rfl⟩, h⟩
theorem pe_bl {b j pos} : PE X (.Constant (.bool b) j pos) (tC (.bl b)) := fun _ _ _ H _ I h => Constant_bool ⟨.bl b, H, I, rfl, h⟩
theorem pe_str {x j pos} : PE X (.Constant (.str x) j pos) (tC (.str x)) := fun _ _ _ H _ I h => Calls.Constant_str ⟨.str x, H, I.tok _, ⟨_, rfl⟩, h⟩

/-- a global name of the def -/
def Gl (X : Cx) (x : Str) : Prop := X.env.kindOf x = some .globalImplicit
theorem ld_glob {E : Value → Shared → Prop} {pins : List (Addr × Obj)} {s : Shared} {σ : St} {H : Hp} {x : Str} {u : Value} {pos : Pos} {Q : Value → Shared → Prop} (I : Inv X pins σ H s) (hg : Gl X x) (hm : X.mg x = some u) (h : Q u s)
    (hd : (x == ("__debug__" : Str)) = false := by decide) : wpAny (model X.prog X.w) X.A (eval (.Name x pos) X.env) Q E s :=
  Calls.Name_function_global I.ok.kind hg (Calls.loadGlobal_global (by rw [I.ok.glob]; exact I.mod.glob.keeps I.bk) hm h) hd
theorem ld_blt {E : Value → Shared → Prop} {pins : List (Addr × Obj)} {s : Shared} {σ : St} {H : Hp} {x : Str} {u : Value} {pos : Pos} {Q : Value → Shared → Prop} (I : Inv X pins σ H s) (hg : Gl X x) (hm : X.mg x = none) (hv : bootBuiltins x = some u) (h : Q u s)
    (hn : x ≠ "__name__" := by decide) (hd : (x == ("__debug__" : Str)) = false := by decide) : wpAny (model X.prog X.w) X.A (eval (.Name x pos) X.env) Q E s := by
  obtain ⟨mb, h1, h2⟩ := I.mod.blt
  exact Calls.Name_function_global I.ok.kind hg (Calls.loadGlobal_builtin (by rw [I.ok.glob]; exact I.mod.glob.keeps I.bk) hm (by rw [I.ok.blt]; exact h1.keeps I.bk) ((h2 x hn).trans hv) h) hd
/-- a module's constant, a class, a function, as a value -/
theorem pe_glob {x : Str} {v : V} {u : Value} {pos : Pos} (hg : Gl X x) (hm : X.mg x = some u) (r : RelV v u) (hd : (x == ("__debug__" : Str)) = false := by decide) : PE X (.Name x pos) (tC v) :=
  fun _ _ _ H _ I h => ld_glob I hg hm ⟨v, H, I, r, h⟩ hd
theorem pe_bltn {x : Str} {v : V} {u : Value} {pos : Pos} (hg : Gl X x) (hm : X.mg x = none) (hv : bootBuiltins x = some u) (r : RelV v u) (hn : x ≠ "__name__" := by decide) (hd : (x == ("__debug__" : Str)) = false := by decide) : PE X (.Name x pos) (tC v) :=
  fun _ _ _ H _ I h => ld_blt I hg hm hv ⟨v, H, I, r, h⟩ hn hd

/-! ### arithmetic -/
variable {a b : Expr} {ta tb : TE} {pos : Pos}
/-! ### comparisons -/
/-- a comparison as a value, as a test -/
def tB (t : TE) : TT := fun σ H Q => t σ H fun x H1 => ∃ c, x = .bl c ∧ Q c H1
/-- an expression whose value is a bool, as a test -/
theorem pt_val {e : Expr} {t : TE} (h : PE X e t) (he : ∀ whole, isTrue e X.env whole = (do let v ← whole; standAt e.pos; holding [v] (truthy v)) := by intro _; rfl) : PT X e (tB t) := by
  intro pins s σ H Q I hw
  refine isTrue_plain (thn (h pins s σ H _ I hw) fun v s1 ⟨x, H1, I1, r1, q1⟩ => ?_) (he _)
  obtain ⟨d, rfl, q⟩ := q1
  cases r1
  exact wpAny_truthy_bool ⟨H1, I1, q⟩

/-! ### and, or, not -/
variable {tA tB' : TT} {rest : List Expr}
def tOr (t u : TT) : TT := fun σ H Q => t σ H fun c H1 => if c = true then Q true H1 else u σ H1 Q
def tNot (t : TT) : TT := fun σ H Q => t σ H fun c H1 => Q (!c) H1
theorem pw_or1 (ha : PT X a tA) : PW X (.BoolOp .Or [a] pos) tA := by
  intro wh pins s σ H Q I h
  refine isTrue_or (thn (ha pins s σ H Q I h) fun c s1 e => ?_)
  cases c with
  | false => exact isTrue_or_nil e
  | true => exact e
theorem pw_or (ha : PT X a tA) (hb : PW X (.BoolOp .Or (b :: rest) pos) tB') : PW X (.BoolOp .Or (a :: b :: rest) pos) (tOr tA tB') := by
  intro wh pins s σ H Q I h
  refine isTrue_or (thn (ha pins s σ H _ I h) fun c s1 ⟨H1, I1, q1⟩ => ?_)
  cases c with
  | true => exact ⟨H1, I1, q1⟩
  | false => exact hb wh pins s1 σ H1 Q I1 q1
theorem pt_not (ha : PT X a tA) : PT X (.UnaryOp .Not a pos) (tNot tA) := by
  intro pins s σ H Q I h
  exact isTrue_not (ha pins s σ H (fun c H1 => Q (!c) H1) I h)
/-- .. as values (bools) -/
def tAndV (ta tb : TE) : TE := fun σ H Q => ta σ H fun x H1 => ∃ c, x = .bl c ∧ if c = true then tb σ H1 Q else Q (.bl false) H1
def tNotV (ta : TE) : TE := fun σ H Q => ta σ H fun x H1 => ∃ c, x = .bl c ∧ Q (.bl (!c)) H1
theorem pe_one {op} {t : TE} (h : PE X a t) : PE X (.BoolOp op [a] pos) t := fun pins s σ H Q I hw => BoolOp_one (h pins s σ H Q I hw)
theorem pe_and (ha : PE X a ta) (hb : PE X (.BoolOp .And (b :: rest) pos) tb) : PE X (.BoolOp .And (a :: b :: rest) pos) (tAndV ta tb) := by
  intro pins s σ H Q I h
  refine BoolOp_and (thn (ha pins s σ H _ I h) fun v s1 ⟨x, H1, I1, r1, q1⟩ => ?_)
  obtain ⟨c, rfl, q1⟩ := q1
  cases r1
  refine wpAny_truthy_bool ?_
  cases c with
  | true => exact hb pins s1 σ H1 Q I1 q1
  | false => exact ⟨.bl false, H1, I1, rfl, q1⟩
theorem pe_not (ha : PE X a ta) : PE X (.UnaryOp .Not a pos) (tNotV ta) := by
  intro pins s σ H Q I h
  refine UnaryOp_ (thn (ha pins s σ H _ I h) fun v s1 ⟨x, H1, I1, r1, q1⟩ => ?_)
  obtain ⟨c, rfl, q1⟩ := q1
  cases r1
  exact not_of (wpAny_truthy_bool ⟨.bl (!c), H1, I1, rfl, q1⟩)
end
end L2

namespace L2
open PySem PySem.Spec PyProof.Rows

/-! ### a list, a tuple that is read: tracked, frozen, or an object of the module -/
def SqL (K : PySem.W.Frag) (H : Hp) (a : Addr) (xs : List V) : Prop :=
  Rd H a (.lst xs) ∨
    ∃ (o : Obj) (its : Array Value) (n : Nat), K.lookup a = some o ∧ o.cls = .type "list" ∧ o.dict = none ∧ o.data = .seq its n ∧ its.size ≤ sizeLine ∧ Vals xs its.toList
def SqT (K : PySem.W.Frag) (H : Hp) (a : Addr) (xs : List V) : Prop :=
  Rd H a (.tup xs) ∨
    ∃ (o : Obj) (its : Array Value) (n : Nat), K.lookup a = some o ∧ o.cls = .type "tuple" ∧ o.data = .seq its n ∧ its.size ≤ sizeLine ∧ Vals xs its.toList
def absV : Value → Option V
  | .none => some .non
  | .bool b => some (.bl b)
  | .int i _ => some (.int i)
  | .str x _ => some (.str x)
  | .bytes b _ => some (.byt b)
  | .float b _ => some (.flt b)
  | .ref a => some (.ref a)
  | .type n => some (.ty n)
  | _ => none
theorem RelV.abs {x : V} {u : Value} (r : RelV x u) : absV u = some x := by
  cases x with
  | non => cases r; rfl
  | bl _ => cases r; rfl
  | int _ => obtain ⟨t, rfl⟩ := r; rfl
  | str _ => obtain ⟨t, rfl⟩ := r; rfl
  | byt _ => obtain ⟨t, rfl⟩ := r; rfl
  | flt _ => obtain ⟨t, rfl⟩ := r; rfl
  | ref _ => cases r; rfl
  | ty _ => cases r; rfl
theorem RelV.inj {x y : V} {u : Value} (r : RelV x u) (q : RelV y u) : x = y := Option.some.inj (r.abs.symm.trans q.abs)
theorem Vals.inj : ∀ {xs ys : List V} {us : List Value}, Vals xs us → Vals ys us → xs = ys
  | _, _, _, .nil, .nil => rfl
  | _, _, _, .cons r t, .cons r' t' => by rw [r.inj r', Vals.inj t t']
section
variable {X : Cx} {pins : List (Addr × Obj)} {σ : St} {H : Hp} {s : Shared} {a : Addr} {xs ys : List V}
theorem SqL.of {K : PySem.W.Frag} (h : H a = some (.lst xs)) : SqL K H a xs := .inl (.inl h)
theorem SqT.of {K : PySem.W.Frag} (h : H a = some (.tup xs)) : SqT K H a xs := .inl (.inl h)
theorem Inv.list (I : Inv X pins σ H s) (h : SqL X.K H a xs) : ∃ its : List Value, Vals xs its ∧ PlainL s.heap a its.toArray ∧ xs.length ≤ sizeLine := by
  rcases h with h | ⟨o, its, n, hk, hc, hd, hs, hz, r⟩
  · obtain ⟨z, its, n, r, e⟩ := h.ok I.hok
    exact ⟨its, r, ⟨_, n, e, rfl, rfl, rfl⟩, z⟩
  · refine ⟨its.toList, r, ⟨o, n, I.kIn a o hk, hc, hd, by simpa using hs⟩, ?_⟩
    have e := r.length
    simp only [Array.length_toList] at e
    omega
theorem Inv.tuple (I : Inv X pins σ H s) (h : SqT X.K H a xs) : ∃ its : List Value, Vals xs its ∧ IsTup s.heap a its.toArray ∧ xs.length ≤ sizeLine := by
  rcases h with h | ⟨o, its, n, hk, hc, hs, hz, r⟩
  · obtain ⟨z, its, r, p⟩ := h.ok I.hok
    exact ⟨its, r, p, z⟩
  · refine ⟨its.toList, r, ⟨o, I.kIn a o hk, hc, n, by simpa using hs⟩, ?_⟩
    have e := r.length
    simp only [Array.length_toList] at e
    omega
theorem Inv.list_inj (I : Inv X pins σ H s) (h : SqL X.K H a xs) (h' : SqL X.K H a ys) : xs = ys := by
  obtain ⟨its, r, ⟨o, n, e, _, _, d⟩, _⟩ := I.list h
  obtain ⟨its', r', ⟨o', n', e', _, _, d'⟩, _⟩ := I.list h'
  rw [e] at e'; cases e'
  rw [d] at d'
  injection d' with d1 _
  have : its = its' := by simpa using congrArg Array.toList d1
  subst this
  exact r.inj r'
end

/-! ### another wish about exceptions -/
abbrev Cx.wish (X : Cx) (E : Value → Shared → Prop) : Cx := { X with xe := E }
/-- no exception leaves -/
abbrev Cx.nox (X : Cx) : Cx := X.wish fun _ _ => False
theorem Cx.Ok.wish {X : Cx} (ok : X.Ok) (E : Value → Shared → Prop) : (X.wish E).Ok :=
  ⟨ok.mod, ok.kind, ok.glob, ok.blt, ok.above, ok.inj, ok.has, ok.cab, ok.hd, ok.frames, ok.stk, ok.exf, ok.bs, ok.bsz, ok.noex, ok.exfs, ok.funs, ok.frf⟩
theorem Cx.Ok.unwish {X : Cx} {E : Value → Shared → Prop} (ok : (X.wish E).Ok) : X.Ok :=
  ⟨ok.mod, ok.kind, ok.glob, ok.blt, ok.above, ok.inj, ok.has, ok.cab, ok.hd, ok.frames, ok.stk, ok.exf, ok.bs, ok.bsz, ok.noex, ok.exfs, ok.funs, ok.frf⟩
section
variable {X : Cx} {pins : List (Addr × Obj)} {σ : St} {H : Hp} {s : Shared} {E : Value → Shared → Prop}
theorem Inv.wish (I : Inv X pins σ H s) (E : Value → Shared → Prop) : Inv (X.wish E) pins σ H s := ⟨I.ok.wish E, I.os, I.bare, I.base, I.loc, I.cell, I.free, I.freeC, I.pin, I.hok, I.len⟩
theorem Inv.unwish (I : Inv (X.wish E) pins σ H s) : Inv X pins σ H s := ⟨I.ok.unwish, I.os, I.bare, I.base, I.loc, I.cell, I.free, I.freeC, I.pin, I.hok, I.len⟩
theorem SP.unwish {D : Ends} {f : Flow} {s' : Shared} (h : SP (X.wish E) pins D f s') : SP X pins D f s' := by
  cases f with
  | next => obtain ⟨σ', H', I, q⟩ := h; exact ⟨σ', H', I.unwish, q⟩
  | brk => obtain ⟨σ', H', I, q⟩ := h; exact ⟨σ', H', I.unwish, q⟩
  | cont => obtain ⟨σ', H', I, q⟩ := h; exact ⟨σ', H', I.unwish, q⟩
  | ret u => obtain ⟨v, σ', H', I, r, q⟩ := h; exact ⟨v, σ', H', I.unwish, r, q⟩
theorem PSs.nox {st : List Stmt} {t : TS} (h : PSs X.nox st t) : PSs X st t := fun pins s σ H D I hw =>
  wpAny_mono (h pins s σ H D (I.wish _) hw) (fun _ _ q => q.unwish) fun _ _ z => False.elim z
end

/-! ### blocks and small statements -/
section
variable {X : Cx} {st : Stmt} {rest : List Stmt} {t u : TS} {e : Expr} {te : TE} {pos : Pos}
def tNext : TS := fun D σ H => D.nx σ H
def tSeq (t u : TS) : TS := fun D σ H => t { D with nx := u D } σ H
theorem pss_nil : PSs X [] tNext := fun _ _ σ H _ I h => wpAny_execs_nil ⟨σ, H, I, h⟩
theorem pss_cons (h1 : PS X st t) (h2 : PSs X rest u) : PSs X (st :: rest) (tSeq t u) := by
  intro pins s σ H D I h
  refine wpAny_execs_cons (thn (h1 pins s σ H { D with nx := u D } I h) fun f s1 q => ?_)
  cases f with
  | next =>
    obtain ⟨σ', H', I', q⟩ := q
    exact h2 pins s1 σ' H' D I' q
  | ret v => exact q
  | brk => exact q
  | cont => exact q
theorem pss_one (h1 : PS X st t) : PSs X [st] t := by
  intro pins s σ H D I h
  refine wpAny_execs_cons (thn (h1 pins s σ H D I h) fun f s1 q => ?_)
  cases f with
  | next => exact wpAny_execs_nil q
  | ret v => exact q
  | brk => exact q
  | cont => exact q
def tRet (te : TE) : TS := fun D σ H => te σ H D.rt
theorem ps_ret (he : PE X e te) : PS X (.Return (some e) pos) (tRet te) := by
  intro pins s σ H D I h
  exact wpAny_Return_some (thn (he pins s σ H _ I h) fun v s1 ⟨x, H1, I1, r1, q1⟩ => ⟨x, σ, H1, I1, r1, q1⟩)
def tIfS (c : TT) (t u : TS) : TS := fun D σ H => c σ H fun b H1 => if b = true then t D σ H1 else u D σ H1
theorem ps_if {c : Expr} {a b : List Stmt} {tc : TT} (hc : PT X c tc) (ha : PSs X a t) (hb : PSs X b u) : PS X (.If c a b pos) (tIfS tc t u) := by
  intro pins s σ H D I h
  refine wpAny_If (thn (hc pins s σ H _ I h) fun d s1 ⟨H1, I1, q1⟩ => ?_)
  cases d with
  | true => exact ha pins s1 σ H1 D I1 q1
  | false => exact hb pins s1 σ H1 D I1 q1
end

/-! ### targets -/
abbrev TG := V → St → Hp → (St → Hp → Prop) → Prop
def PG (X : Cx) (target : Expr) (t : TG) : Prop :=
  ∀ (pins : List (Addr × Obj)) (s : Shared) (σ : St) (H : Hp) (v : V) (u : Value) (Q : St → Hp → Prop), Inv X pins σ H s → RelV v u → t v σ H Q →
    wpAny (model X.prog X.w) X.A (assign target X.env u) (fun _ s' => ∃ σ' H', Inv X pins σ' H' s' ∧ Q σ' H') X.xe s
/-- o[i] = v, by values -/
abbrev TSet := V → V → V → Hp → (Hp → Prop) → Prop
def PSet (X : Cx) (t : TSet) : Prop :=
  ∀ (pins : List (Addr × Obj)) (s : Shared) (σ : St) (H : Hp) (o i v : V) (ov iv u : Value) (Q : Hp → Prop), Inv X pins σ H s → RelV o ov → RelV i iv → RelV v u → t o i v H Q →
    wpAny (model X.prog X.w) X.A (setItem ov iv u) (fun _ s' => ∃ H', Inv X pins σ H' s' ∧ Q H') X.xe s
/-- a op= b, by values -/
abbrev TIp := V → V → Hp → VK → Prop
def PIp (X : Cx) (op : Operator) (t : TIp) : Prop :=
  ∀ (pins : List (Addr × Obj)) (s : Shared) (σ : St) (H : Hp) (x y : V) (v u : Value) (Q : VK), Inv X pins σ H s → RelV x v → RelV y u → t x y H Q →
    wpAny (model X.prog X.w) X.A (inplaceOp op v u) (EP X pins σ Q) X.xe s
section
variable {X : Cx} {pos : Pos}
def gName (i : Nat) : TG := fun v σ H Q => Q (σ.set i (some v)) H
theorem pg_name {i : Nat} {x : Str} (hN : X.N.Nodup) (hi : X.N[i]? = some x) (hx : Loc X.env.scope x) (hf : X.fn x = true ∨ X.env.scope.names.lookup x = some .local := by first | exact .inl rfl | exact .inr rfl | assumption) : PG X (.Name x pos) (gName i) := by
  intro pins s σ H v u Q I r h
  exact wpAny_assign_Name (store_ok I hN hi hx r (fun s' I' => ⟨_, H, I', h⟩) hf)
/-- o[i] = .. -/
def gSub (to ti : TE) (t : TSet) : TG := fun v σ H Q => to σ H fun o H1 => ti σ H1 fun i H2 => t o i v H2 fun H3 => Q σ H3
theorem pg_sub {o i : Expr} {to ti : TE} {t : TSet} (ho : PE X o to) (hi : PE X i ti) (hs : PSet X t)
    (ha : ∀ v, assign (.Subscript o i pos) X.env v = (do
      let ov ← holding [v] (eval o X.env)
      let iv ← holding [v, ov] (eval i X.env)
      standAt pos
      holding [v, ov, iv] (setItem ov iv v)
      release [v, ov, iv] []) := by intro _; rfl) : PG X (.Subscript o i pos) (gSub to ti t) := by
  intro pins s σ H v u Q I r h
  rw [ha]
  refine wpAny_bind (wpAny_holding (thn (ho pins s σ H _ I h) fun ov s1 ⟨x, H1, I1, r1, q1⟩ => ?_))
  refine wpAny_bind (wpAny_holding (thn (hi pins s1 σ H1 _ I1 q1) fun iv s2 ⟨y, H2, I2, r2, q2⟩ => ?_))
  refine wpAny_bind (wpAny_standAt (wpAny_bind (wpAny_holding (thn (hs pins s2 σ H2 x y v ov iv u _ I2 r1 r2 r q2) fun _ s3 ⟨H3, I3, q3⟩ => ?_))))
  exact wpAny_release ⟨σ, H3, I3, q3⟩
/-- target = value -/
def tAsg (te : TE) (g : TG) : TS := fun D σ H => te σ H fun x H1 => g x σ H1 D.nx
theorem ps_asg {tg e : Expr} {te : TE} {g : TG} (he : PE X e te) (hg : PG X tg g) (hs : swapsWithSole [tg] e pos.line X.env = pure false := by rfl) (hw : swappedStores [tg] e X.env = pure none := by rfl)
    (h1 : (assignEach [tg] X.env).map (·.2) = [assign tg X.env] := by rfl) : PS X (.Assign [tg] e pos) (tAsg te g) := by
  intro pins s σ H D I h
  refine wpAny_Assign_stores (thn (he pins s σ H _ I h) fun v s1 ⟨x, H1, I1, r1, q1⟩ => ?_) hs hw
  rw [h1]
  exact thn (hg pins s1 σ H1 x v _ I1 r1 q1) fun _ s2 q => q
/-- name = value -/
theorem ps_set {i : Nat} {x : Str} {e : Expr} {te : TE} {pos' : Pos} (hN : X.N.Nodup) (hi : X.N[i]? = some x) (hx : Loc X.env.scope x) (he : PE X e te) (hs : swapsWith e (some (.Name x pos')) pos.line X.env = pure false := by rfl) (hf : X.fn x = true ∨ X.env.scope.names.lookup x = some .local := by first | exact .inl rfl | exact .inr rfl | assumption) :
    PS X (.Assign [.Name x pos'] e pos) (tAsg te (gName i)) := by
  intro pins s σ H D I h
  refine wpAny_Assign_Name (thn (he pins s σ H _ I h) fun v s1 ⟨y, H1, I1, r1, q1⟩ => ?_) hs
  exact store_ok I1 hN hi hx r1 (fun s2 I2 => ⟨_, H1, I2, q1⟩) hf
/-- o[i] op= e -/
def tAugS (to ti te : TE) (tget : V → V → Hp → VK → Prop) (tip : TIp) (tset : TSet) : TS := fun D σ H => to σ H fun o H1 => ti σ H1 fun i H2 => tget o i H2 fun x H3 => te σ H3 fun y H4 => tip x y H4 fun z H5 => tset o i z H5 fun H6 => D.nx σ H6
/-- o[i], by values -/
def PGet (X : Cx) (t : V → V → Hp → VK → Prop) : Prop :=
  ∀ (pins : List (Addr × Obj)) (s : Shared) (σ : St) (H : Hp) (o i : V) (ov iv : Value) (Q : VK), Inv X pins σ H s → RelV o ov → RelV i iv → t o i H Q →
    wpAny (model X.prog X.w) X.A (getItem ov iv) (EP X pins σ Q) X.xe s
theorem ps_augS {o i e : Expr} {to ti te : TE} {tget : V → V → Hp → VK → Prop} {tip : TIp} {tset : TSet} {op : Operator} {tpos : Pos} (ho : PE X o to) (hi : PE X i ti) (hg : PGet X tget) (he : PE X e te) (hp : PIp X op tip) (hs : PSet X tset)
    (ha : ∀ ov iv new, augStore i ov iv new = (do holding [new, ov, iv] (setItem ov iv new); release [new, ov, iv] []; pure .next) := by intros; rfl) : PS X (.AugAssign (.Subscript o i tpos) op e pos) (tAugS to ti te tget tip tset) := by
  intro pins s σ H D I h
  refine wpAny_AugAssign_SubscriptAny (thn (ho pins s σ H _ I h) fun ov s1 ⟨x1, H1, I1, r1, q1⟩ => ?_) ha
  refine thn (hi pins s1 σ H1 _ I1 q1) fun iv s2 ⟨x2, H2, I2, r2, q2⟩ => ?_
  refine thn (hg pins s2 σ H2 x1 x2 ov iv _ I2 r1 r2 q2) fun old s3 ⟨x3, H3, I3, r3, q3⟩ => ?_
  refine thn (he pins s3 σ H3 _ I3 q3) fun v s4 ⟨x4, H4, I4, r4, q4⟩ => ?_
  refine thn (hp pins s4 σ H4 x3 x4 old v _ I4 r3 r4 q4) fun new s5 ⟨x5, H5, I5, r5, q5⟩ => ?_
  exact thn (hs pins s5 σ H5 x1 x2 x5 ov iv new _ I5 r1 r2 r5 q5) fun _ s6 ⟨H6, I6, q6⟩ => ⟨σ, H6, I6, q6⟩
end

/-! ### while -/
section
variable {X : Cx} {pos : Pos}
end

/-! ### what a loop or a comprehension walks -/
/-- at turn i: it yields x (the heap may grow), or it stops -/
structure It where
  go : Nat → Hp → Prop
  yld : Nat → Hp → V → Hp → Prop
  stop : Nat → Hp → Prop
/-- the iterator's own objects may turn: they are not the frame's, not pinned, younger than the entry (or a comprehension's own) -/
def FpOk (X : Cx) (pins : List (Addr × Obj)) (H : Hp) (b : Addr) : Prop :=
  H b = none ∧ b ≠ X.env.locals ∧ b ∉ X.fs ∧ (b ∈ X.ex ∨ X.s_0.heap.objs.size ≤ b) ∧ (∀ x c, X.env.cells.lookup x = some c → c ≠ b) ∧ ∀ p ∈ X.pn ++ pins, p.1 ≠ b
theorem Inv.fpOk {X : Cx} {pins : List (Addr × Obj)} {σ : St} {H H' : Hp} {s : Shared} {b : Addr} (I : Inv X pins σ H s) (hb : s.heap.objs.size ≤ b) (hn : H' b = none) : FpOk X pins H' b := by
  refine ⟨hn, Nat.ne_of_gt (Nat.lt_of_lt_of_le I.lt hb), I.nofs hb, .inr (Nat.le_trans I.sz hb), fun x c e z => ?_, fun p hp z => ?_⟩
  · obtain ⟨v, q⟩ := I.cell x c e
    exact absurd (Nat.lt_of_lt_of_le q.lt (by rw [z]; exact hb)) (Nat.lt_irrefl _)
  · exact absurd (Nat.lt_of_lt_of_le (Heap.lt_size (I.pin p hp).1) (by rw [z]; exact hb)) (Nat.lt_irrefl _)
structure Turn (P : Program) (w : World) (K : PySem.W.Frag) (tg : Expr) (J : It) (fp : List Addr) (it : Addr) (tn : Nat → Heap → Prop) : Prop where
  mem : it ∈ fp
  obj : ∀ i h, tn i h → ∀ b ∈ fp, ∃ o, h.get? b = some o ∧ ∀ v, o.data ≠ .cell v
  keep : ∀ i h h', tn i h → (∀ b ∈ fp, ∀ o, h.get? b = some o → h'.get? b = some o) → tn i h'
  item : ∀ (X : Cx), X.prog = P → X.w = w → X.K = K → X.calm = true → ∀ (i : Nat) (pins : List (Addr × Obj)) (s : Shared) (σ : St) (H : Hp) (E : Value → Shared → Prop), Inv X pins σ H s → (∀ b ∈ fp, FpOk X pins H b) → tn i s.heap → J.go i H →
    wpAny (model P w) X.A (pyNext (.ref it)) (fun r s1 => ∃ u, r = some u ∧
      wpAny (model P w) X.A (letOwnedTupleGo tg (.ref it) u) (fun _ s2 => ∃ x H', Inv X pins σ H' s2 ∧ RelV x u ∧ J.yld i H x H' ∧ tn (i + 1) s2.heap ∧ ∀ b ∈ fp, H' b = none) E s1) E s
  done : ∀ (X : Cx), X.prog = P → X.w = w → X.K = K → X.calm = true → ∀ (i : Nat) (pins : List (Addr × Obj)) (s : Shared) (σ : St) (H : Hp) (E : Value → Shared → Prop), Inv X pins σ H s → (∀ b ∈ fp, FpOk X pins H b) → tn i s.heap → J.stop i H →
    wpAny (model P w) X.A (pyNext (.ref it)) (fun r s1 => r = none ∧ Inv X pins σ H s1) E s
  self : ∀ (A : Around) (i : Nat) (s : Shared) (Q : Value → Shared → Prop) (E : Value → Shared → Prop), tn i s.heap → Q (.ref it) s → wpAny (model P w) A (pyIter (.ref it)) Q E s
abbrev TI := St → Hp → (It → Hp → Prop) → Prop
/-- an iterator has come -/
def PIE (X : Cx) (pins : List (Addr × Obj)) (σ : St) (tg : Expr) (R : It → Hp → Prop) (itv : Value) (s2 : Shared) : Prop :=
  ∃ (it : Addr) (fp : List Addr) (tn : Nat → Heap → Prop) (J : It) (H' : Hp), itv = .ref it ∧ Inv X pins σ H' s2 ∧ Turn X.prog X.w X.K tg J fp it tn ∧ tn 0 s2.heap ∧ (∀ b ∈ fp, FpOk X pins H' b) ∧ R J H'
def PI (X : Cx) (tg iter : Expr) (wi : TI) : Prop :=
  ∀ (pins : List (Addr × Obj)) (s : Shared) (σ : St) (H : Hp) (R : It → Hp → Prop), Inv X pins σ H s → wi σ H R →
    wpAny (model X.prog X.w) X.A (eval iter X.env) (fun v s1 => wpAny (model X.prog X.w) X.A (pyIter v) (PIE X pins σ tg R) X.xe s1) X.xe s

/-- the step ahead of the store is nothing for an iterator that keeps no tuple -/
theorem go_of {M : Model} {A : Around} {E : Value → Shared → Prop} {s : Shared} {tg : Expr} {it : Addr} {u : Value} {o : Obj} {n : String} {vs : Array Value} {Q : Unit → Shared → Prop} (ho : s.heap.get? it = some o) (hc : o.cls = .type n) (hd : o.data = .fields vs)
    (hn : ["enumerate", "zip", "dict_itemiterator", "dict_reverseitemiterator", "odict_iterator", "itertools.zip_longest", "itertools.pairwise"].contains n = false) (hQ : Q () s) : wpAny M A (letOwnedTupleGo tg (.ref it) u) Q E s := by
  unfold letOwnedTupleGo
  cases tg <;> first
    | exact wpAny_pure hQ
    | (cases u <;> first
        | exact wpAny_pure hQ
        | (refine wpAny_bind (wpAny_load ho ?_)
           rw [hc, hd]
           show wpAny M A (if (["enumerate", "zip", "dict_itemiterator", "dict_reverseitemiterator", "odict_iterator", "itertools.zip_longest", "itertools.pairwise"].contains n && vs[0]? == some (rawInt _)) = true then _ else _) Q E s
           rw [if_neg (by intro h; rw [hn, Bool.false_and] at h; cases h)]
           exact wpAny_pure hQ))

/-- the list at a, as it stands at each turn (a loop may append to it) -/
def Itl (K : PySem.W.Frag) (a : Addr) : It :=
  ⟨fun i H => ∃ xs x, SqL K H a xs ∧ xs[i]? = some x, fun i H x H' => H' = H ∧ ∀ xs, SqL K H a xs → xs[i]? = some x, fun i H => ∃ xs, SqL K H a xs ∧ xs.length ≤ i⟩
/-- lo, lo + 1, .. (n of them) -/
def Itr (lo : Int) (n : Nat) : It := ⟨fun i _ => i < n, fun i H x H' => H' = H ∧ x = .int (lo + i), fun i _ => n ≤ i⟩
theorem turn_list {P : Program} {w : World} {K : PySem.W.Frag} {tg : Expr} (a it : Addr) : Turn P w K tg (Itl K a) [it] it (fun i h => h.IsListIter it a i) where
  mem := by simp
  obj := fun i h st b hb => by
    have e : b = it := by simpa using hb
    subst e
    obtain ⟨o, e, c, d⟩ := st
    exact ⟨o, e, fun v z => by rw [d] at z; cases z⟩
  keep := fun i h h' st k => st.at fun o e => k it (by simp) o e
  item := by
    intro X hP hw hK hc i pins s σ H E I hf st hg
    subst hP hw hK
    obtain ⟨xs, x, hq, hx⟩ := hg
    obtain ⟨its, rv, p, hz⟩ := I.list hq
    obtain ⟨u, hu, ru⟩ := rv.get hx
    obtain ⟨f0, f1, f2, f3, f4, f5⟩ := hf it (by simp)
    refine wpAny_pyNext_list_item st p.isList (x := u) (by simpa using hu) fun h' st' sb => ?_
    have I1 : Inv X pins σ H { s with heap := h' } := I.turned (t' := s.toks) (fun b o hb e => (sb.2 b hb).trans e) f0 f1 f3 f4 f5
    obtain ⟨o, e, c, d⟩ := id st'
    exact ⟨u, rfl, go_of (s := { s with heap := h' }) e c d (by decide) ⟨x, H, I1, ru, ⟨rfl, fun ys hy => by rw [I.list_inj hy hq]; exact hx⟩, st', fun b hb => (hf b hb).1⟩⟩
  done := by
    intro X hP hw hK hc i pins s σ H E I hf st hg
    subst hP hw hK
    obtain ⟨xs, hq, hx⟩ := hg
    obtain ⟨its, rv, p, hz⟩ := I.list hq
    obtain ⟨f0, f1, f2, f3, f4, f5⟩ := hf it (by simp)
    have hl := rv.length
    exact wpAny_pyNext_list_end (I.ok.hd hc) st p.isList (by simp; omega) fun h' eb => ⟨rfl, I.turned (t' := s.toks) (fun b o hb e => eb b o hb e) f0 f1 f3 f4 f5⟩
  self := fun _ _ _ _ _ st h => wpAny_pyIter_listiter st h
theorem turn_range {P : Program} {w : World} {K : PySem.W.Frag} {tg : Expr} (it : Addr) (lo : Int) (n : Nat) : Turn P w K tg (Itr lo n) [it] it (fun i h => IsRangeIter h it (lo + (i : Nat) * 1) ((n : Int) - (i : Nat)) 1) where
  mem := by simp
  obj := fun i h st b hb => by
    have e : b = it := by simpa using hb
    subst e
    exact ⟨_, st, fun v z => by
      have z' : Data.fields _ = Data.cell v := z
      cases z'⟩
  keep := fun i h h' st k => k it (by simp) _ st
  item := by
    intro X hP hw hK hc i pins s σ H E I hf st hg
    subst hP hw hK
    obtain ⟨f0, f1, f2, f3, f4, f5⟩ := hf it (by simp)
    have W := Walks.range (prog := X.prog) (w := X.w) (I.ok.hd hc) it lo 1 n
    refine W.item i s _ _ hg st fun v h' tk hv st' kk => ?_
    obtain ⟨t, rfl⟩ := hv
    have I1 : Inv X pins σ H { s with heap := h', toks := tk } := I.turned (fun b o hb e => kk b o (by simpa using hb) e) f0 f1 f3 f4 f5
    refine ⟨_, rfl, go_of (s := { s with heap := h', toks := tk }) (n := "range_iterator") st' rfl rfl (by decide) ⟨.int (lo + i), H, I1, ⟨t, ?_⟩, ⟨rfl, rfl⟩, st', fun b hb => (hf b hb).1⟩⟩
    rw [Int.mul_one]
  done := by
    intro X hP hw hK hc i pins s σ H E I hf st hg
    subst hP hw hK
    obtain ⟨f0, f1, f2, f3, f4, f5⟩ := hf it (by simp)
    exact wpAny_pyNext_range_end (I.ok.hd hc) st (by have : n ≤ i := hg; omega) fun h' eb => ⟨rfl, I.turned (t' := s.toks) (fun b o hb e => eb b o hb e) f0 f1 f3 f4 f5⟩
  self := fun _ _ _ _ _ st h => wpAny_pyIter_rangeiter st h
end L2

namespace L2
open PySem PySem.Spec PyProof.Rows
section
variable {X : Cx} {tg : Expr}
def iList (K : PySem.W.Frag) (tl : TE) : TI := fun σ H R => tl σ H fun x H1 => ∃ a, x = .ref a ∧ (∃ xs, SqL K H1 a xs) ∧ R (Itl K a) H1
theorem pi_list {l : Expr} {tl : TE} (hl : PE X l tl) : PI X tg l (iList X.K tl) := by
  intro pins s σ H R I h
  refine thn (hl pins s σ H _ I h) fun v s1 ⟨x, H1, I1, r1, q1⟩ => ?_
  obtain ⟨a, e, ⟨xs, hq⟩, q⟩ := q1
  subst e
  cases r1
  obtain ⟨its, rv, p, hz⟩ := I1.list hq
  refine wpAny_pyIter_list p.isList ?_
  refine ⟨s1.heap.objs.size, [s1.heap.objs.size], _, _, H1, rfl, I1.kept (t' := s1.toks) fun b o e => Heap.get?_push_of_some _ e, turn_list a _, ⟨_, Heap.get?_push_size _ rfl, rfl, rfl⟩, fun b hb => ?_, q⟩
  have e : b = s1.heap.objs.size := by simpa using hb
  subst e
  exact I1.fpOk (Nat.le_refl _) (I1.hok.fresh (Nat.le_refl _))
/-- a range object just made, walked -/
theorem range_it {pins : List (Addr × Obj)} {σ : St} {H : Hp} {s : Shared} {R : It → Hp → Prop} {E : Value → Shared → Prop} {lo hi : Int} {t u v : Tok} {tk : Nat} (I : Inv X pins σ H s) (h1 : -(2 ^ 62) ≤ lo) (h2 : lo < 2 ^ 62) (h3 : -(2 ^ 62) ≤ hi) (h4 : hi < 2 ^ 62)
    (q : R (Itr lo (hi - lo).toNat) H) : wpAny (model X.prog X.w) X.A (pyIter (.ref s.heap.objs.size)) (PIE X pins σ tg R) E { s with heap := s.heap.push { cls := .type "range", data := .fields #[.int lo t, .int hi u, .int 1 v] }, toks := tk } := by
  refine wpAny_pyIter_range (IsRange.new ..) (small_one h1 h2 h3 h4) ?_
  have I1 : Inv X pins σ H { s with heap := s.heap.push { cls := .type "range", data := .fields #[.int lo t, .int hi u, .int 1 v] }, toks := tk } := I.kept fun b o e => Heap.get?_push_of_some _ e
  refine ⟨(s.heap.push { cls := .type "range", data := .fields #[.int lo t, .int hi u, .int 1 v] }).objs.size, [(s.heap.push { cls := .type "range", data := .fields #[.int lo t, .int hi u, .int 1 v] }).objs.size], _, _, H, rfl,
    I1.kept (t' := tk) fun b o e => Heap.get?_push_of_some _ e, turn_range _ lo (hi - lo).toNat, ?_, fun b hb => ?_, q⟩
  · have e1 : lo + ((0 : Nat) : Int) * 1 = lo := by simp
    have e2 : (((hi - lo).toNat : Nat) : Int) - ((0 : Nat) : Int) = Builtin.Range.rangeSize lo hi 1 := by rw [rangeSize_one]; split <;> omega
    show IsRangeIter _ _ (lo + ((0 : Nat) : Int) * 1) ((((hi - lo).toNat : Nat) : Int) - ((0 : Nat) : Int)) 1
    rw [e1, e2]
    exact Heap.get?_push_size _ rfl
  · have e : b = (s.heap.push { cls := .type "range", data := .fields #[.int lo t, .int hi u, .int 1 v] }).objs.size := by simpa using hb
    subst e
    exact I1.fpOk (Nat.le_refl _) (I1.hok.fresh (Nat.le_refl _))
def iRng1 (ta : TA) : TI := fun σ H R => ta σ H fun vs H1 => ∃ j : Int, vs = [.int j] ∧ -(2 ^ 62) ≤ j ∧ j < 2 ^ 62 ∧ R (Itr 0 j.toNat) H1
theorem pi_range1 {a : Expr} {ta : TA} {p pos : Pos} (hg : Gl X "range") (hm : X.mg "range" = none) (ha : PA X [a] ta) (hs : starEach [a] X.env = [(false, eval a X.env)] := by rfl) : PI X tg (.Call (.Name "range" p) [a] [] pos) (iRng1 ta) := by
  intro pins s σ H R I h
  refine Call_ (ld_blt I hg hm boot_range (PyProof.Rows.callWith_type1 (thn (ha pos pins s σ H _ I h) fun us s1 ⟨vs, H1, I1, r1, q1⟩ => ?_) hs rfl))
  obtain ⟨j, e, q1, q2, q⟩ := q1
  subst e
  cases r1 with
  | cons r rr =>
    cases rr
    obtain ⟨t, rfl⟩ := r
    exact call_range_1 (range_it I1 (by omega) (by omega) q1 q2 (by simpa using q))
/-! ### for -/
/-- W: the invariant by the turn and a measure; N: what the body is to reach -/
def tFor (wi : TI) (g : TG) (tb : TS) : TS := fun D σ H => wi σ H fun J H1 => ∃ W : Nat → Nat → St → Hp → Prop, (∃ m, W 0 m σ H1) ∧ ∀ i m σ H, W i m σ H →
  (J.stop i H ∧ D.nx σ H) ∨ (J.go i H ∧ ∃ N : St → Hp → Prop, (∀ σ' H', N σ' H' → ∃ m', m' < m ∧ W (i + 1) m' σ' H') ∧ ∀ x H', J.yld i H x H' → g x σ H' fun σ2 H2 => tb { D with nx := N, ct := N, bk := D.nx } σ2 H2)
/-- the records at fp as they stand -/
def pinsAt (fp : List Addr) (h : Heap) : List (Addr × Obj) := fp.filterMap fun b => (h.get? b).map fun o => (b, o)
theorem mem_pinsAt {fp : List Addr} {h : Heap} {b : Addr} {o : Obj} (hb : b ∈ fp) (e : h.get? b = some o) : (b, o) ∈ pinsAt fp h := List.mem_filterMap.mpr ⟨b, hb, by rw [e]; rfl⟩
theorem of_pinsAt {fp : List Addr} {h : Heap} {p : Addr × Obj} (hp : p ∈ pinsAt fp h) : p.1 ∈ fp ∧ h.get? p.1 = some p.2 := by
  obtain ⟨b, hb, e⟩ := List.mem_filterMap.mp hp
  cases q : h.get? b with
  | none => rw [q] at e; cases e
  | some o =>
    rw [q] at e
    have e' : (b, o) = p := Option.some.inj e
    subst e'
    exact ⟨hb, q⟩
theorem Inv.pinned {pins : List (Addr × Obj)} {σ : St} {H : Hp} {s : Shared} {fp : List Addr} (I : Inv X pins σ H s) (hf : ∀ b ∈ fp, FpOk X pins H b) (ho : ∀ b ∈ fp, ∃ o, s.heap.get? b = some o ∧ ∀ v, o.data ≠ .cell v) : Inv X (pins ++ pinsAt fp s.heap) σ H s :=
  I.pins_of fun p hp => (List.mem_append.mp hp).elim (fun z => I.pin p (List.mem_append_right _ z)) fun z => by
    obtain ⟨hb, e⟩ := of_pinsAt z
    obtain ⟨f0, f1, f2, _⟩ := hf p.1 hb
    obtain ⟨o, e', d⟩ := ho p.1 hb
    rw [e] at e'; cases e'
    exact ⟨e, f0, f1, f2, d⟩
theorem Inv.unpinned {pins pl : List (Addr × Obj)} {σ : St} {H : Hp} {s : Shared} (I : Inv X (pins ++ pl) σ H s) : Inv X pins σ H s := I.pins_of fun p hp => I.pin p (List.mem_append_right _ (List.mem_append_left _ hp))
theorem ps_for {iter : Expr} {body : List Stmt} {wi : TI} {g : TG} {tb : TS} {pos : Pos} (hp : PassesOwn (model X.prog X.w) X.A X.env X.xe) (hc : X.calm = true) (hi : PI X tg iter wi) (hg : PG X tg g) (hb : PSs X body tb)
    (hs : ∀ x, foldedSetIterable iter X.env x = pure x := by intro _; rfl) : PS X (.For tg iter body [] pos) (tFor wi g tb) := by
  intro pins s σ H D I h
  refine wpAny_For (thn (hi pins s σ H _ I h) fun v s1 h1 => thn h1 fun itv s2 h2 => ?_) hs
  obtain ⟨it, fp, tn, J, H2, e, I2, T, st2, f2, W, ⟨m0, w0⟩, turn⟩ := h2
  subst e
  -- what stays true of the iterator's objects through the loop
  have stat : ∀ {H' : Hp}, (∀ b ∈ fp, H' b = none) → ∀ b ∈ fp, FpOk X pins H' b := fun hn b hb => ⟨hn b hb, (f2 b hb).2⟩
  refine codeAny_forLoop_any (fun n s' => ∃ i σ' H', Inv X pins σ' H' s' ∧ tn i s'.heap ∧ (∀ b ∈ fp, H' b = none) ∧ W i n σ' H') ?_ m0 ⟨0, σ, H2, I2, st2, fun b hb => (f2 b hb).1, w0⟩
  rintro n s3 ⟨i, σ3, H3, I3, st3, fr3, w3⟩
  rcases turn i n σ3 H3 w3 with ⟨stop, qn⟩ | ⟨go, N, hN, step⟩
  · refine wpAny_passesOwn hp (thn (T.done X rfl rfl rfl hc i pins s3 σ3 H3 X.xe I3 (stat fr3) st3 stop) fun r s4 ⟨hr, I4⟩ => ?_)
    subst hr
    exact wpAny_execs_nil ⟨σ3, H3, I4, qn⟩
  · refine wpAny_passesOwn hp (thn (T.item X rfl rfl rfl hc i pins s3 σ3 H3 X.xe I3 (stat fr3) st3 go) fun r s4 ⟨u, hr, h4⟩ => ?_)
    subst hr
    refine wpAny_passesOwn hp (thn h4 fun _ s5 ⟨x, H5, I5, r5, y5, st5, fr5⟩ => ?_)
    have I5' := I5.pinned (stat fr5) (T.obj _ _ st5)
    refine wpAny_passesOwn hp (thn (hg _ s5 σ3 H5 x u _ I5' r5 (step x H5 y5)) fun _ s6 ⟨σ6, H6, I6, q6⟩ => ?_)
    refine wpAny_passesOwn hp (thn (hb _ s6 σ6 H6 _ I6 q6) fun f s7 q7 => ?_)
    have again : ∀ {σ7 : St} {H7 : Hp}, Inv X (pins ++ pinsAt fp s5.heap) σ7 H7 s7 → N σ7 H7 → ∃ m, m < n ∧ ∃ i σ' H', Inv X pins σ' H' s7 ∧ tn i s7.heap ∧ (∀ b ∈ fp, H' b = none) ∧ W i m σ' H' := fun {σ7 H7} I7 n7 => by
      obtain ⟨m', hm, w7⟩ := hN σ7 H7 n7
      refine ⟨m', hm, i + 1, σ7, H7, I7.unpinned, T.keep _ _ _ st5 fun b hb o e => (I7.pin (b, o) (List.mem_append_right _ (List.mem_append_right _ (mem_pinsAt hb e)))).1, fun b hb => ?_, w7⟩
      obtain ⟨o, e, d⟩ := T.obj _ _ st5 b hb
      exact (I7.pin (b, o) (List.mem_append_right _ (List.mem_append_right _ (mem_pinsAt hb e)))).2.1
    cases f with
    | next => obtain ⟨σ7, H7, I7, n7⟩ := q7; exact again I7 n7
    | cont => obtain ⟨σ7, H7, I7, n7⟩ := q7; exact again I7 n7
    | brk => obtain ⟨σ7, H7, I7, q7⟩ := q7; exact ⟨σ7, H7, I7.unpinned, q7⟩
    | ret v => obtain ⟨x7, σ7, H7, I7, r7, q7⟩ := q7; exact ⟨x7, σ7, H7, I7.unpinned, r7, q7⟩
end

/-! ### the forms one uses -/
/-- over a list that the body leaves as it is -/
theorem for_list {K : PySem.W.Frag} {a : Addr} {xs : List V} {g : TG} {tb : TS} {D : Ends} {σ : St} {H : Hp} (Pv : Nat → St → Hp → Prop) (h0 : Pv 0 σ H) (hl : ∀ i σ H, i ≤ xs.length → Pv i σ H → SqL K H a xs)
    (hs : ∀ i x σ H, xs[i]? = some x → Pv i σ H → g x σ H fun σ2 H2 => tb { D with nx := Pv (i + 1), ct := Pv (i + 1), bk := D.nx } σ2 H2) (hd : ∀ σ H, Pv xs.length σ H → D.nx σ H) :
    ∃ W : Nat → Nat → St → Hp → Prop, (∃ m, W 0 m σ H) ∧ ∀ i m σ H, W i m σ H →
      ((Itl K a).stop i H ∧ D.nx σ H) ∨ ((Itl K a).go i H ∧ ∃ N : St → Hp → Prop, (∀ σ' H', N σ' H' → ∃ m', m' < m ∧ W (i + 1) m' σ' H') ∧ ∀ x H', (Itl K a).yld i H x H' → g x σ H' fun σ2 H2 => tb { D with nx := N, ct := N, bk := D.nx } σ2 H2) := by
  refine ⟨fun i m σ H => m = xs.length - i ∧ i ≤ xs.length ∧ Pv i σ H, ⟨xs.length, by simp, Nat.zero_le _, h0⟩, ?_⟩
  rintro i m σ H ⟨rfl, hi, p⟩
  have q := hl i σ H hi p
  by_cases hlt : i < xs.length
  · refine .inr ⟨⟨xs, xs[i], q, by simp [hlt]⟩, Pv (i + 1), fun σ' H' p' => ⟨xs.length - (i + 1), by omega, rfl, hlt, p'⟩, fun x H' y => ?_⟩
    obtain ⟨e, y⟩ := y
    subst e
    exact hs i x σ _ (y xs q) p
  · have e : i = xs.length := by omega
    subst e
    exact .inl ⟨⟨xs, q, Nat.le_refl _⟩, hd σ H p⟩
theorem for_range {lo : Int} {n : Nat} {g : TG} {tb : TS} {D : Ends} {σ : St} {H : Hp} (Pv : Nat → St → Hp → Prop) (h0 : Pv 0 σ H)
    (hs : ∀ i σ H, i < n → Pv i σ H → g (.int (lo + i)) σ H fun σ2 H2 => tb { D with nx := Pv (i + 1), ct := Pv (i + 1), bk := D.nx } σ2 H2) (hd : ∀ σ H, Pv n σ H → D.nx σ H) :
    ∃ W : Nat → Nat → St → Hp → Prop, (∃ m, W 0 m σ H) ∧ ∀ i m σ H, W i m σ H →
      ((Itr lo n).stop i H ∧ D.nx σ H) ∨ ((Itr lo n).go i H ∧ ∃ N : St → Hp → Prop, (∀ σ' H', N σ' H' → ∃ m', m' < m ∧ W (i + 1) m' σ' H') ∧ ∀ x H', (Itr lo n).yld i H x H' → g x σ H' fun σ2 H2 => tb { D with nx := N, ct := N, bk := D.nx } σ2 H2) := by
  refine ⟨fun i m σ H => m = n - i ∧ i ≤ n ∧ Pv i σ H, ⟨n, by simp, Nat.zero_le _, h0⟩, ?_⟩
  rintro i m σ H ⟨rfl, hi, p⟩
  by_cases hlt : i < n
  · refine .inr ⟨hlt, Pv (i + 1), fun σ' H' p' => ⟨n - (i + 1), by omega, rfl, hlt, p'⟩, fun x H' y => ?_⟩
    obtain ⟨e, y⟩ := y
    subst e y
    exact hs i σ _ hlt p
  · have e : i = n := by omega
    subst e
    exact .inl ⟨Nat.le_refl _, hd σ H p⟩
end L2

namespace L2
open PySem PySem.Spec PyProof.Rows

abbrev R2 := V → V → Hp → VK → Prop
/-- a two-place operation on values: f is binaryOp op, inplaceOp op or compareOp op -/
def OpR (X : Cx) (f : Value → Value → Sem Value) (r : R2) : Prop :=
  ∀ (pins : List (Addr × Obj)) (s : Shared) (σ : St) (H : Hp) (x y : V) (v u : Value) (Q : VK), Inv X pins σ H s → RelV x v → RelV y u → r x y H Q →
    wpAny (model X.prog X.w) X.A (f v u) (EP X pins σ Q) X.xe s
/-- a call of a value that is known (a builtin, a type) with values -/
def CallR (X : Cx) (f : Value) (r : List V → Hp → VK → Prop) : Prop :=
  ∀ (pins : List (Addr × Obj)) (s : Shared) (σ : St) (H : Hp) (xs : List V) (us : List Value) (Q : VK), Inv X pins σ H s → Vals xs us → r xs H Q →
    wpAny (model X.prog X.w) X.A (call f us) (EP X pins σ Q) X.xe s
def tOp (r : R2) (ta tb : TE) : TE := fun σ H Q => ta σ H fun x H1 => tb σ H1 fun y H2 => r x y H2 Q
/-- ints in, under C, and a value out -/
def rI (C : Int → Int → Prop) (g : Int → Int → V) : R2 := fun x y H Q => ∃ i j, x = .int i ∧ y = .int j ∧ C i j ∧ Q (g i j) H
def rI0 (g : Int → Int → V) : R2 := fun x y H Q => ∃ i j, x = .int i ∧ y = .int j ∧ Q (g i j) H
section
variable {X : Cx} {a b c : Expr} {ta tb tc : TE} {pos : Pos}

theorem binT (ha : PE X a ta) (hb : PE X b tb) {pins : List (Addr × Obj)} {s : Shared} {σ : St} {H : Hp} {R : V → V → Hp → Prop} (I : Inv X pins σ H s)
    (h : ta σ H fun x H1 => tb σ H1 fun y H2 => R x y H2) {Q : Value → Shared → Prop} {f : Value → Value → Sem Value}
    (hf : ∀ v u s2 x y H2, Inv X pins σ H2 s2 → RelV x v → RelV y u → R x y H2 → wpAny (model X.prog X.w) X.A (f v u) Q X.xe s2) :
    wpAny (model X.prog X.w) X.A (eval a X.env) (fun v s₁ => wpAny (model X.prog X.w) X.A (eval b X.env) (fun u s₂ => wpAny (model X.prog X.w) X.A (f v u) Q X.xe s₂) X.xe s₁) X.xe s := by
  refine thn (ha pins s σ H _ I h) fun v s1 ⟨x, H1, I1, r1, q1⟩ => ?_
  refine thn (hb pins s1 σ H1 _ I1 q1) fun u s2 ⟨y, H2, I2, r2, q2⟩ => ?_
  exact hf v u s2 x y H2 I2 r1 r2 q2

theorem pe_op {op : Operator} {r : R2} (ho : OpR X (binaryOp op) r) (ha : PE X a ta) (hb : PE X b tb) : PE X (.BinOp a op b pos) (tOp r ta tb) := by
  intro pins s σ H Q I h
  exact wpAny_BinOp (binT ha hb I h fun v u s2 x y H2 I2 rx ry q => ho pins s2 σ H2 x y v u Q I2 rx ry q)
/-! ### ints -/
theorem opI {f : Value → Value → Sem Value} {C : Int → Int → Prop} {g : Int → Int → Int}
    (rule : ∀ (i j : Int) (t u : Tok) (s : Shared) (Q : Value → Shared → Prop) (E : Value → Shared → Prop), C i j → Q (.int (g i j) s.toks) { s with toks := s.toks + 1 } → wpAny (model X.prog X.w) X.A (f (.int i t) (.int j u)) Q E s) :
    OpR X f (rI C fun i j => .int (g i j)) := by
  intro pins s σ H x y v u Q I rx ry h
  obtain ⟨i, j, rfl, rfl, hc, q⟩ := h
  obtain ⟨t, rfl⟩ := rx
  obtain ⟨t', rfl⟩ := ry
  exact rule i j t t' s _ _ hc ⟨.int (g i j), H, I.tok _, ⟨_, rfl⟩, q⟩
theorem opI0 {f : Value → Value → Sem Value} {g : Int → Int → Int}
    (rule : ∀ (i j : Int) (t u : Tok) (s : Shared) (Q : Value → Shared → Prop) (E : Value → Shared → Prop), Q (.int (g i j) s.toks) { s with toks := s.toks + 1 } → wpAny (model X.prog X.w) X.A (f (.int i t) (.int j u)) Q E s) :
    OpR X f (rI0 fun i j => .int (g i j)) := by
  intro pins s σ H x y v u Q I rx ry h
  obtain ⟨i, j, rfl, rfl, q⟩ := h
  obtain ⟨t, rfl⟩ := rx
  obtain ⟨t', rfl⟩ := ry
  exact rule i j t t' s _ _ ⟨.int (g i j), H, I.tok _, ⟨_, rfl⟩, q⟩
theorem opB0 {f : Value → Value → Sem Value} {g : Int → Int → Bool}
    (rule : ∀ (i j : Int) (t u : Tok) (s : Shared) (Q : Value → Shared → Prop) (E : Value → Shared → Prop), Q (.bool (g i j)) s → wpAny (model X.prog X.w) X.A (f (.int i t) (.int j u)) Q E s) :
    OpR X f (rI0 fun i j => .bl (g i j)) := by
  intro pins s σ H x y v u Q I rx ry h
  obtain ⟨i, j, rfl, rfl, q⟩ := h
  obtain ⟨t, rfl⟩ := rx
  obtain ⟨t', rfl⟩ := ry
  exact rule i j t t' s _ _ ⟨.bl (g i j), H, I, rfl, q⟩

def CPow (i j : Int) : Prop := 0 ≤ j ∧ j ≤ 1000000 ∧ i.natAbs < 2 ^ 64
def CMul (i j : Int) : Prop := (-(2 ^ 64) < i ∧ i < 2 ^ 64) ∨ (-(2 ^ 64) < j ∧ j < 2 ^ 64)
theorem CMul.ok {i j : Int} (h : CMul i j) : IntMulOk i j := by
  rcases h with ⟨h1, h2⟩ | ⟨h1, h2⟩
  · exact .of_left (intBits_le_64 h1 h2)
  · exact .of_right (intBits_le_64 h1 h2)
theorem op_add : OpR X (binaryOp .Add) (rI0 fun i j => .int (i + j)) := opI0 fun _ _ _ _ _ _ _ q => add_int q
theorem op_sub : OpR X (binaryOp .Sub) (rI0 fun i j => .int (i - j)) := opI0 fun _ _ _ _ _ _ _ q => sub_int q
theorem op_mul : OpR X (binaryOp .Mult) (rI CMul fun i j => .int (i * j)) := opI fun _ _ _ _ _ _ _ hc q => mul_int q hc.ok
/-- % by a positive divisor of any size -/
theorem op_mod : OpR X (binaryOp .Mod) (rI (fun _ j => 0 < j) fun i j => .int (i % j)) := opI fun i j _ _ _ _ _ hc q => by
  have h1 : (0 : Int) < j := hc
  exact mod_int' (by omega) (by rw [Int.fmod_eq_emod_of_nonneg i (by omega)]; exact q)
theorem op_pow : OpR X (binaryOp .Pow) (rI CPow fun i j => .int (i ^ j.toNat)) := opI fun _ _ _ _ _ _ _ hc q => pow_int_small hc.1 hc.2.1 hc.2.2 q
theorem iop_add : OpR X (inplaceOp .Add) (rI0 fun i j => .int (i + j)) := opI0 fun _ _ _ _ _ _ _ q => iadd_int q
/-! ### bools among ints: n += (a < b) -/
end

/-! ### comparisons -/
/-- the scalars that == tells apart as data does -/
def scal : V → V → Bool
  | .non, .non => true | .non, .int _ => true | .int _, .non => true | .non, .bl _ => true | .bl _, .non => true | .non, .str _ => true | .str _, .non => true
  | .int _, .int _ => true | .bl _, .bl _ => true | .str _, .str _ => true | .byt _, .byt _ => true
  | .int _, .str _ => true | .str _, .int _ => true | .bl _, .str _ => true | .str _, .bl _ => true
  | _, _ => false
def rEq : R2 := fun x y H Q => scal x y = true ∧ Q (.bl (decide (x = y))) H
def rNe : R2 := fun x y H Q => scal x y = true ∧ Q (.bl (!decide (x = y))) H

theorem dec_int {i j : Int} : decide (V.int i = V.int j) = (i == j) := by
  rw [Bool.eq_iff_iff]
  simp
theorem dec_bl {i j : Bool} : decide (V.bl i = V.bl j) = (i == j) := by
  rw [Bool.eq_iff_iff]
  simp
theorem dec_str {i j : Str} : decide (V.str i = V.str j) = (i == j) := by
  rw [Bool.eq_iff_iff]
  simp
theorem dec_byt {i j : Array UInt8} : decide (V.byt i = V.byt j) = (i.toList == j.toList) := by
  rw [Bool.eq_iff_iff]
  cases i
  cases j
  simp

section
variable {X : Cx} {a b c : Expr} {ta tb tc : TE} {pos : Pos}
theorem fin_bl {pins : List (Addr × Obj)} {σ : St} {H : Hp} {s : Shared} {Q : VK} {k k' : Bool} (I : Inv X pins σ H s) (q : Q (.bl k) H) (e : k = k') : EP X pins σ Q (.bool k') s := by
  subst e
  exact ⟨.bl k, H, I, rfl, q⟩
theorem op_eq : OpR X (compareOp .Eq) rEq := by
  intro pins s σ H x y v u Q I rx ry h
  obtain ⟨hs, q⟩ := h
  cases x with
  | non =>
    cases rx
    cases y with
    | non => cases ry; exact PySem.EqNone.eq_none_none (fin_bl I q (by simp))
    | bl j => cases ry; exact PySem.EqNone.eq_none_bool (fin_bl I q (by simp))
    | int j => obtain ⟨t', rfl⟩ := ry; exact PySem.EqNone.eq_none_int (fin_bl I q (by simp))
    | str j => obtain ⟨t', rfl⟩ := ry; exact PySem.EqNone.eq_none_str (fin_bl I q (by simp))
    | _ => exact absurd (show false = true from hs) Bool.false_ne_true
  | bl i =>
    cases rx
    cases y with
    | non => cases ry; exact PySem.EqNone.eq_bool_none (fin_bl I q (by simp))
    | bl j => cases ry; exact eq_bool (fin_bl I q dec_bl)
    | str j => obtain ⟨t', rfl⟩ := ry; exact PySem.EqMixed.eq_bool_str (fin_bl I q (by simp))
    | _ => exact absurd (show false = true from hs) Bool.false_ne_true
  | int i =>
    obtain ⟨t, rfl⟩ := rx
    cases y with
    | non => cases ry; exact PySem.EqNone.eq_int_none (fin_bl I q (by simp))
    | int j => obtain ⟨t', rfl⟩ := ry; exact eq_int (fin_bl I q dec_int)
    | str j => obtain ⟨t', rfl⟩ := ry; exact PySem.EqMixed.eq_int_str (fin_bl I q (by simp))
    | _ => exact absurd (show false = true from hs) Bool.false_ne_true
  | str i =>
    obtain ⟨t, rfl⟩ := rx
    cases y with
    | non => cases ry; exact PySem.EqNone.eq_str_none (fin_bl I q (by simp))
    | bl j => cases ry; exact PySem.EqMixed.eq_str_bool (fin_bl I q (by simp))
    | int j => obtain ⟨t', rfl⟩ := ry; exact PySem.EqMixed.eq_str_int (fin_bl I q (by simp))
    | str j => obtain ⟨t', rfl⟩ := ry; exact eq_str (fin_bl I q dec_str)
    | _ => exact absurd (show false = true from hs) Bool.false_ne_true
  | byt i =>
    obtain ⟨t, rfl⟩ := rx
    cases y with
    | byt j => obtain ⟨t', rfl⟩ := ry; exact PySem.W.eq_bytes (fin_bl I q dec_byt)
    | _ => exact absurd (show false = true from hs) Bool.false_ne_true
  | _ => cases y <;> exact absurd (show false = true from hs) Bool.false_ne_true
theorem op_ne : OpR X (compareOp .NotEq) rNe := by
  intro pins s σ H x y v u Q I rx ry h
  obtain ⟨hs, q⟩ := h
  cases x with
  | non =>
    cases rx
    cases y with
    | non => cases ry; exact PySem.EqNone.ne_none_none (fin_bl I q (by simp))
    | bl j => cases ry; exact PySem.EqNone.ne_none_bool (fin_bl I q (by simp))
    | int j => obtain ⟨t', rfl⟩ := ry; exact PySem.EqNone.ne_none_int (fin_bl I q (by simp))
    | str j => obtain ⟨t', rfl⟩ := ry; exact PySem.EqNone.ne_none_str (fin_bl I q (by simp))
    | _ => exact absurd (show false = true from hs) Bool.false_ne_true
  | bl i =>
    cases rx
    cases y with
    | non => cases ry; exact PySem.EqNone.ne_bool_none (fin_bl I q (by simp))
    | bl j => cases ry; exact ne_bool (fin_bl I q (congrArg not dec_bl))
    | str j => obtain ⟨t', rfl⟩ := ry; exact PySem.EqMixed.ne_bool_str (fin_bl I q (by simp))
    | _ => exact absurd (show false = true from hs) Bool.false_ne_true
  | int i =>
    obtain ⟨t, rfl⟩ := rx
    cases y with
    | non => cases ry; exact PySem.EqNone.ne_int_none (fin_bl I q (by simp))
    | int j => obtain ⟨t', rfl⟩ := ry; exact ne_int (fin_bl I q (congrArg not dec_int))
    | str j => obtain ⟨t', rfl⟩ := ry; exact PySem.EqMixed.ne_int_str (fin_bl I q (by simp))
    | _ => exact absurd (show false = true from hs) Bool.false_ne_true
  | str i =>
    obtain ⟨t, rfl⟩ := rx
    cases y with
    | non => cases ry; exact PySem.EqNone.ne_str_none (fin_bl I q (by simp))
    | bl j => cases ry; exact PySem.EqMixed.ne_str_bool (fin_bl I q (by simp))
    | int j => obtain ⟨t', rfl⟩ := ry; exact PySem.EqMixed.ne_str_int (fin_bl I q (by simp))
    | str j => obtain ⟨t', rfl⟩ := ry; exact ne_str (fin_bl I q (congrArg not dec_str))
    | _ => exact absurd (show false = true from hs) Bool.false_ne_true
  | byt i =>
    obtain ⟨t, rfl⟩ := rx
    cases y with
    | byt j => obtain ⟨t', rfl⟩ := ry; exact PySem.W.ne_bytes (fin_bl I q (congrArg not dec_byt))
    | _ => exact absurd (show false = true from hs) Bool.false_ne_true
  | _ => cases y <;> exact absurd (show false = true from hs) Bool.false_ne_true

theorem op_lt : OpR X (compareOp .Lt) (rI0 fun i j => .bl (decide (i < j))) := opB0 fun _ _ _ _ _ _ _ q => lt_int q
theorem op_gt : OpR X (compareOp .Gt) (rI0 fun i j => .bl (decide (j < i))) := opB0 fun _ _ _ _ _ _ _ q => gt_int q
theorem nomark (b : Expr) {op : CmpOp} (h : op ≠ .In := by decide) (h2 : op ≠ .NotIn := by decide) : behindInMarks op b = false := by
  have e1 : (op == CmpOp.In) = false := by cases op <;> first | rfl | exact absurd rfl h
  have e2 : (op == CmpOp.NotIn) = false := by cases op <;> first | rfl | exact absurd rfl h2
  cases b <;> simp [behindInMarks, e1, e2]
/-- a comparison as a value; hm: nomark b, or (for in, not in) by with_unfolding_all rfl -/
theorem pe_cmpR {op : CmpOp} {r : R2} (ho : OpR X (compareOp op) r) (ha : PE X a ta) (hb : PE X b tb) (hm : behindInMarks op b = false) : PE X (.Compare a [op] [b] pos) (tOp r ta tb) := by
  intro pins s σ H Q I h
  exact wpAny_Compare1 (binT ha hb I h fun v u s2 x y H2 I2 rx ry q => ho pins s2 σ H2 x y v u Q I2 rx ry q) hm
/-- a reading of a value as a test -/
def tTest (t : TE) : TT := fun σ H Q => t σ H fun x H' => ∃ k, x = .bl k ∧ Q k H'
theorem pt_cmpR {op : CmpOp} {r : R2} (ho : OpR X (compareOp op) r) (ha : PE X a ta) (hb : PE X b tb) (hm : behindInMarks op b = false) : PT X (.Compare a [op] [b] pos) (tTest (tOp r ta tb)) := by
  intro pins s σ H Q I h
  refine wpAny_isTrue_Compare1 (thn (ha pins s σ H _ I h) fun v s1 ⟨x, H1, I1, r1, q1⟩ => thn (hb pins s1 σ H1 _ I1 q1) fun u s2 ⟨y, H2, I2, r2, q2⟩ =>
    thn (ho pins s2 σ H2 x y v u _ I2 r1 r2 q2) fun c s3 ⟨z, H3, I3, r3, k, e, q3⟩ => ?_) hm
  subst e
  cases r3
  exact wpAny_truthy_bool ⟨H3, I3, q3⟩
/-! ### truth -/
theorem line63 : (sizeLine : Nat) < 2 ^ 63 := by rw [sizeLine_eq]; decide
/-! ### strs and bytes -/
theorem op_add_str : OpR X (binaryOp .Add) (fun x y H Q => ∃ i j, x = .str i ∧ y = .str j ∧ i.length + j.length ≤ sizeLine ∧ Q (.str (i ++ j)) H) := by
  intro pins s σ H x y v u Q I rx ry h
  obtain ⟨i, j, rfl, rfl, hz, q⟩ := h
  obtain ⟨t, rfl⟩ := rx
  obtain ⟨t', rfl⟩ := ry
  exact add_str (fun t' tk => ⟨.str (i ++ j), H, I.tok _, ⟨_, rfl⟩, q⟩) hz
/-! ### scalar builtins, by CallR -/
theorem vals1 {x : V} {us : List Value} (r : Vals [x] us) : ∃ u, us = [u] ∧ RelV x u := by
  cases r with
  | cons r1 r2 => cases r2; exact ⟨_, rfl, r1⟩
theorem call_str_int : CallR X (.type "str") (fun xs H Q => ∃ i, xs = [.int i] ∧ i.natAbs.log2 < 1920 ∧ Q (.str (toString i)) H) := by
  intro pins s σ H xs us Q I r h
  obtain ⟨i, rfl, hz, q⟩ := h
  obtain ⟨u, rfl, t, rfl⟩ := vals1 r
  exact PySem.P.str_of_int hz ⟨.str _, H, I.tok _, ⟨_, rfl⟩, q⟩
end
end L2

namespace L2
open PySem PySem.Spec PyProof.Rows

/-! ### an instance, its attributes a map -/
theorem lookIn_ns {h : Heap} {dx : Addr} {mA : Str → Option Value} (n : h.Ns1 dx mA) : ∃ od, h.get? dx = some od ∧ ∀ name, PySem.W.lookIn name od = some (mA name) := by
  obtain ⟨o, es, ep, ho, hd, hk, _, hm⟩ := n
  refine ⟨o, ho, fun name => ?_⟩
  have e := hm name
  unfold nsFind findBy at e
  rw [← Array.find?_toList] at e
  unfold PySem.W.lookIn
  rw [hd]
  dsimp only
  split
  · rename_i y q
    rw [q] at e
    exact congrArg some e
  · rename_i q
    rw [q] at e
    have a : es.toList.any (·.refKey) = false := by
      rw [List.any_eq_false]
      intro y hy
      obtain ⟨z, t, hkey⟩ := hk y (Array.mem_toList_iff.mp hy)
      simp [DictEntry.refKey, hkey]
    have a' : ¬ es.toList.any (·.refKey) = true := by rw [a]; exact Bool.false_ne_true
    rw [if_neg a']
    exact congrArg some e

section
variable {prog : Program} {w : World} {A : Around} {E : Value → Shared → Prop} {s : Shared} {K : PySem.W.Frag} {x dx C f : Addr} {mA : Str → Option Value} {name : Str} {v : Value}

end

/-! ### the attributes as a list of pairs -/
def putF (f : Str) (v : V) : List (Str × V) → List (Str × V)
  | [] => [(f, v)]
  | (g, x) :: r => if g = f then (g, v) :: r else (g, x) :: putF f v r
theorem lookup_putF (f g : Str) (v : V) : ∀ fs : List (Str × V), (putF f v fs).lookup g = if g = f then some v else fs.lookup g
  | [] => by
    show List.lookup g [(f, v)] = _
    by_cases h : g = f
    · have hb : (g == f) = true := beq_iff_eq.mpr h
      simp only [List.lookup, hb, if_pos h]
    · have hb : (g == f) = false := beq_eq_false_iff_ne.mpr h
      simp only [List.lookup, hb, if_neg h]
  | (k, x) :: r => by
    have ih := lookup_putF f g v r
    rw [show putF f v ((k, x) :: r) = (if k = f then (k, v) :: r else (k, x) :: putF f v r) from rfl]
    by_cases hk : k = f
    · rw [if_pos hk]
      by_cases h : g = k
      · have hb : (g == k) = true := beq_iff_eq.mpr h
        simp only [List.lookup, hb, if_pos (h.trans hk)]
      · have hb : (g == k) = false := beq_eq_false_iff_ne.mpr h
        simp only [List.lookup, hb, if_neg (fun e : g = f => h (e.trans hk.symm))]
    · rw [if_neg hk]
      by_cases h : g = k
      · have hb : (g == k) = true := beq_iff_eq.mpr h
        simp only [List.lookup, hb, if_neg (fun e : g = f => hk (h.symm.trans e))]
      · have hb : (g == k) = false := beq_eq_false_iff_ne.mpr h
        simp only [List.lookup, hb]
        exact ih
theorem keys_putF (f : Str) (v : V) : ∀ fs : List (Str × V), f ∈ (putF f v fs).map (·.1) ∧ ∀ g, g ∈ fs.map (·.1) → g ∈ (putF f v fs).map (·.1)
  | [] => ⟨by simp [putF], fun g h => by simp at h⟩
  | (k, x) :: r => by
    obtain ⟨i1, i2⟩ := keys_putF f v r
    rw [show putF f v ((k, x) :: r) = (if k = f then (k, v) :: r else (k, x) :: putF f v r) from rfl]
    by_cases hk : k = f
    · rw [if_pos hk]
      subst hk
      exact ⟨by simp, fun g h => by simpa using h⟩
    · rw [if_neg hk]
      refine ⟨?_, fun g h => ?_⟩
      · rw [List.map_cons]
        exact List.mem_cons_of_mem _ i1
      · rw [List.map_cons] at h ⊢
        rcases List.mem_cons.mp h with e | e
        · exact List.mem_cons.mpr (.inl e)
        · exact List.mem_cons_of_mem _ (i2 g e)
theorem length_putF (f : Str) (v : V) : ∀ fs : List (Str × V), (putF f v fs).length ≤ fs.length + 1
  | [] => by simp [putF]
  | (k, x) :: r => by
    have ih := length_putF f v r
    rw [show putF f v ((k, x) :: r) = (if k = f then (k, v) :: r else (k, x) :: putF f v r) from rfl]
    by_cases hk : k = f
    · rw [if_pos hk, List.length_cons, List.length_cons]; omega
    · rw [if_neg hk, List.length_cons, List.length_cons]; omega

theorem RelO.some_of {v : V} {o : Option Value} (r : RelO (some v) o) : ∃ u, o = some u ∧ RelV v u := by
  cases o with
  | none => exact (show False from r).elim
  | some u => exact ⟨u, rfl, r⟩
theorem handed_of {v : V} {u : Value} (r : RelV v u) : PySem.W.handedIn u = true := by
  cases v with
  | non => cases (show u = Value.none from r); rfl
  | bl b => cases (show u = Value.bool b from r); rfl
  | int i => obtain ⟨t, e⟩ := (show ∃ t, u = Value.int i t from r); cases e; rfl
  | str x => obtain ⟨t, e⟩ := (show ∃ t, u = Value.str x t from r); cases e; rfl
  | byt b => obtain ⟨t, e⟩ := (show ∃ t, u = Value.bytes b t from r); cases e; rfl
  | flt b => obtain ⟨t, e⟩ := (show ∃ t, u = Value.float b t from r); cases e; rfl
  | ref a => cases (show u = Value.ref a from r); rfl
  | ty n => cases (show u = Value.type n from r); rfl

section
variable {P : Program} {w : World} {H H' : Hp} {h h' : Heap} {a C dx : Addr} {fs fs' : List (Str × V)}
end

/-! ### what of the text a class must have -/
/-- no class of it has the name -/
def NoAttr (K : PySem.W.Frag) (C : Addr) (f : Str) : Prop := PySem.W.findIn K (.ref C) f = some none
section
variable {X : Cx} {pins : List (Addr × Obj)} {σ : St} {H : Hp} {s : Shared} {a C dx : Addr} {fs : List (Str × V)} {f : Str} {v : V} {A : Around} {E : Value → Shared → Prop}

/-- e.f where nothing but the object is asked: through attributeBase (super) and the last hold -/
theorem attr_of {prog : Program} {w : World} {env : Env} {e : Expr} {f : Str} {pos : Pos} {s : Shared} {Q : Value → Shared → Prop} (hb : attributeBase e f env (eval e env) = eval e env)
    (h : wpAny (model prog w) A (eval e env) (fun o s₁ => wpAny (model prog w) A (getAttr o f true) Q E s₁) E s) : wpAny (model prog w) A (eval (.Attribute e f pos) env) Q E s :=
  Attribute_any_ h (by rw [arm_eval_Attribute, hb])
end

/-! ### readings and rules -/
section
variable {X : Cx} {o e value : Expr} {f : Str} {pos pos' tpos : Pos} {ta tv : TE}
end

/-! ### isinstance -/
section
variable {X : Cx} {pins : List (Addr × Obj)} {σ : St} {H : Hp} {s : Shared} {A : Around} {E : Value → Shared → Prop} {Q : Value → Shared → Prop} {c : Value} {b : Bool}
end
end L2

namespace L2
open PySem PySem.Spec PyProof.Rows

/-! ### room -/
structure Room (k : Nat) (A : Around) : Prop where
  hd : A.handled = none
  dp : A.depth + 3 * k + 5 < recursionLimit
  un : A.units + 16 * k + 200 < cLine
theorem Room.mono {j k : Nat} {A : Around} (r : Room k A) (h : j ≤ k) : Room j A := ⟨r.hd, by have := r.dp; omega, by have := r.un; omega⟩
theorem Room.deeper {k : Nat} {A : Around} (r : Room (k + 1) A) (env : Env) : Room k (A.deeper env) :=
  ⟨r.hd, by have := r.dp; show A.depth + 1 + 3 * k + 5 < _; omega, by have := r.un; show A.units + 3 + 16 * k + 200 < _; omega⟩
theorem make_depth {A : Around} {C : Addr} {us : List Value} {kw : List (Str × Value)} : (A.under (.builtin "type.__call__" ⟨.ref C :: us, kw⟩)).depth = A.depth + 1 := by
  first | rfl | simp [Around.under, Code.weight, Code.isCreation, Code.isGuard, Code.isCaller, Code.frames, Code.isFrame, guardIds]
theorem make_units {A : Around} {C : Addr} {us : List Value} {kw : List (Str × Value)} : (A.under (.builtin "type.__call__" ⟨.ref C :: us, kw⟩)).units = A.units + 1 := by
  first | rfl | simp [Around.under, Code.cUnits, Code.frames, Code.isFrame]
theorem Room.make {k : Nat} {A : Around} (r : Room (k + 1) A) (C : Addr) (us : List Value) (kw : List (Str × Value)) : Room k (A.under (.builtin "type.__call__" ⟨.ref C :: us, kw⟩)) :=
  ⟨r.hd, by have := r.dp; rw [make_depth]; omega, by have := r.un; rw [make_units]; omega⟩
theorem Room.depth {k : Nat} {A : Around} (r : Room k A) : A.depth < recursionLimit := by have := r.dp; omega
theorem Room.units {k : Nat} {A : Around} (r : Room k A) : A.units + 64 < cLine := by have := r.un; omega
/-! ### argument lists and displays -/
def tNil : TA := fun _ H Q => Q [] H
def tCons (ta : TE) (tr : TA) : TA := fun σ H Q => ta σ H fun x H1 => tr σ H1 fun xs H2 => Q (x :: xs) H2
section
variable {X : Cx} {e : Expr} {es : List Expr} {te : TE} {t : TA} {pos : Pos}
theorem pa_nil : PA X [] tNil := fun _ _ _ _ H Q I h => Calls.spliced_nil ⟨[], H, I, .nil, h⟩
theorem pa_cons (ha : PE X e te) (hr : PA X es t) (hs : starEach (e :: es) X.env = (false, eval e X.env) :: starEach es X.env := by rfl) : PA X (e :: es) (tCons te t) := by
  intro pos pins s σ H Q I h
  rw [hs]
  show wpAny _ _ (spliced ((false, eval e X.env) :: backTo pos (starEach es X.env))) _ _ s
  refine Calls.spliced_cons (thn (ha pins s σ H _ I h) fun u s1 ⟨x, H1, I1, r1, q1⟩ => ?_)
  exact thn (hr pos pins s1 σ H1 _ I1 q1) fun us s2 ⟨xs, H2, I2, r2, q2⟩ => ⟨x :: xs, H2, I2, .cons r1 r2, q2⟩

/-- a tuple, a list of written items -/
def tTup (t : TA) : TE := fun σ H Q => t σ H fun xs H1 => xs.length ≤ sizeLine ∧ ∀ p, H1 p = none → Q (.ref p) (upd H1 p (.tup xs))
def tLst (t : TA) : TE := fun σ H Q => t σ H fun xs H1 => xs.length ≤ sizeLine ∧ ∀ p, H1 p = none → Q (.ref p) (upd H1 p (.lst xs))
theorem pe_tup {x1} (h : PA X es t) : PE X (.Tuple es x1 pos) (tTup t) := by
  intro pins s σ H Q I hq
  refine wpAny_Tuple_spliced (thn (h pos pins s σ H _ I hq) fun us s1 ⟨xs, H1, I1, r, z, q⟩ => ⟨by rw [← r.length]; exact z, ?_⟩)
  have hf : H1 s1.heap.objs.size = none := I1.hok.fresh (Nat.le_refl _)
  refine ⟨.ref s1.heap.objs.size, upd H1 s1.heap.objs.size (.tup xs), I1.laid (t' := s1.toks) (fun b u e => Heap.get?_push_of_some _ e) (Nat.le_refl _) ?_, rfl, q _ hf⟩
  exact ⟨z, us, r, ⟨_, Heap.get?_push_size _ rfl, rfl, _, rfl⟩⟩
theorem pe_lst (h : PA X es t) : PE X (.List es pos) (tLst t) := by
  intro pins s σ H Q I hq
  refine wpAny_List_spliced (thn (h pos pins s σ H _ I hq) fun us s1 ⟨xs, H1, I1, r, z, q⟩ => ⟨by rw [← r.length]; exact z, ?_⟩)
  have hf : H1 s1.heap.objs.size = none := I1.hok.fresh (Nat.le_refl _)
  refine ⟨.ref s1.heap.objs.size, upd H1 s1.heap.objs.size (.lst xs), I1.laid (t' := s1.toks) (fun b u e => Heap.get?_push_of_some _ e) (Nat.le_refl _) ?_, rfl, q _ hf⟩
  exact ⟨z, us, 0, r, Heap.get?_push_size _ rfl⟩
end

/-! ### what a def promises -/
/-- a def's promise: the bound arguments in the parameters' order, the heap, the wanted end, the wanted exception -/
abbrev Sp := List V → Hp → VK → XK → Prop
/-- how an exception lies behind a call (file 08 gives it): the callers' frames, abstract heap and state ahead of the call, the wish, the exception, the state -/
abbrev CXT := List Env → Hp → Shared → XK → Value → Shared → Prop

/-- the state at a call -/
structure Env0 (P : Program) (w : World) (K : PySem.W.Frag) (mg : Str → Option Value) (base : Heap) (A : Around) (outer : List Env) (s : Shared) (H : Hp) : Prop where
  frames : A.frames = some outer
  mod : Mod K mg base
  bs : ∀ b o, base.get? b = some o → s.heap.get? b = some o ∧ H b = none
  bsz : base.objs.size ≤ s.heap.objs.size
  funs : s.heap.FunFrames base outer
  frf : ∀ b ∈ frs outer, H b = none
  hok : HOk P w H s.heap
  bare : AllBare s.gens
/-- a call's end -/
def CE (outer : List Env) (P : Program) (w : World) (H : Hp) (s : Shared) (Q : VK) (u : Value) (s' : Shared) : Prop :=
  ∃ v H', s'.os = s.os ∧ AllBare s'.gens ∧ Un (frs outer) [] H H' s.heap s'.heap ∧ HOk P w H' s'.heap ∧ RelV v u ∧ Q v H'
def CR (CX : CXT) (outer : List Env) (P : Program) (w : World) (H : Hp) (s : Shared) (Q : VK) (E : XK) (r : Result) (s' : Shared) : Prop :=
  match r with
  | .ok (.ret u) => CE outer P w H s Q u s'
  | .ok _ => False
  | .error e => CX outer H s E e s'
structure FnOk (P : Program) (w : World) (K : PySem.W.Frag) (mg : Str → Option Value) (base : Heap) (CX : CXT) (k : Nat) (f : Addr) (fd : FuncData) (ps : List Str) (sp : Sp) : Prop where
  len : ∀ vs H Q E, sp vs H Q E → vs.length = ps.length
  run : ∀ (A : Around) (outer : List Env) (s : Shared) (H : Hp) (args : Args) (us : List Value) (vs : List V) (Q : VK) (E : XK), Room k A → Env0 P w K mg base A outer s H → BindsTo s fd args (ps.zip us) → Vals vs us → sp vs H Q E →
    codeAny (model P w) A (.call (.ref f) args) (CR CX outer P w H s Q E) s
theorem Env0.make {P : Program} {w : World} {K : PySem.W.Frag} {mg : Str → Option Value} {base : Heap} {A : Around} {outer : List Env} {s : Shared} {H : Hp} (e : Env0 P w K mg base A outer s H) (C : Addr) (us : List Value) (kw : List (Str × Value)) :
    Env0 P w K mg base (A.under (.builtin "type.__call__" ⟨.ref C :: us, kw⟩)) outer s H := ⟨by first | exact e.frames | (simpa [Around.under, Code.envs, Code.isFrame, pushEnvs] using e.frames), e.mod, e.bs, e.bsz, e.funs, e.frf, e.hok, e.bare⟩
theorem Env0.in1 {P : Program} {w : World} {K : PySem.W.Frag} {mg : Str → Option Value} {base : Heap} {A : Around} {outer : List Env} {s : Shared} {H : Hp} (e : Env0 P w K mg base A outer s H) :
    Env0 P w K mg base A.in1 outer s H := ⟨e.frames, e.mod, e.bs, e.bsz, e.funs, e.frf, e.hok, e.bare⟩

section
variable {X : Cx} {pins : List (Addr × Obj)} {σ : St} {H : Hp} {s s' : Shared}
/-- from a body: what a callee wants -/
theorem Inv.env0 (I : Inv X pins σ H s) : Env0 X.prog X.w X.K X.mg X.base X.A X.stack s H :=
  ⟨I.ok.frames, I.ok.mod, I.bs, Nat.le_trans I.ok.bsz I.sz, I.stack, I.stkFree, I.hok, I.bare⟩
/-- behind a call -/
theorem Inv.after {Q : VK} {u : Value} (I : Inv X pins σ H s) (h : CE X.stack X.prog X.w H s Q u s') : EP X pins σ Q u s' := by
  obtain ⟨v, H', os, bare, un, hok, r, q⟩ := h
  obtain ⟨hh, g, d, t, os'⟩ := s'
  obtain rfl : os' = s.os := os
  exact ⟨v, H', I.call (h' := hh) (g' := g) (d' := d) (t' := t) (ch := []) un hok bare (fun b z => absurd z (by simp)), r, q⟩
end

/-! ### calls -/
/-- f(..): the written arguments, then the defaults dvs; E: what is wanted of an exception -/
def tCall (sp : Sp) (dvs : List V) (E : XK) (t : TA) : TE := fun σ H Q => t σ H fun vs H1 => sp (vs ++ dvs) H1 Q E
/-- how the parameters are bound: us the positional arguments, kw the keywords' values by name, ds the defaults that fill up -/
def Binds (K : PySem.W.Frag) (fd : FuncData) (ps : List Str) (ds : List Value) : Prop :=
  ∀ (s : Shared) (us : List Value), K.In s.heap → (us ++ ds).length = ps.length → BindsTo s fd ⟨us, []⟩ (ps.zip (us ++ ds))
/-- every parameter is given -/
theorem Binds.all {K : PySem.W.Frag} {fd : FuncData} {ps : List Str} (h : ∀ us : List Value, us.length = ps.length → bindArgs fd ⟨us, []⟩ = pure (ps.zip us)) : Binds K fd ps [] := fun s us _ hl => by
  rw [List.append_nil] at hl ⊢
  exact .of_eq (h us hl)

/-- an exception of a callee reaches what this body wants of exceptions -/
def Passes (CX : CXT) (X : Cx) (E : XK) : Prop := ∀ (pins : List (Addr × Obj)) (σ : St) (H : Hp) (s : Shared) (e : Value) (s' : Shared), Inv X pins σ H s → CX X.stack H s E e s' → X.xe e s'

section
variable {X : Cx} {CX : CXT} {k : Nat} {f C : Addr} {fd : FuncData} {ps : List Str} {sp : Sp} {dvs : List V} {ds : List Value} {E : XK} {x m : Str} {p pos apos : Pos} {e o : Expr} {es : List Expr} {ta : TE} {t : TA}

/-- the callee runs -/
theorem run_fn {pins : List (Addr × Obj)} {σ : St} {H : Hp} {s : Shared} {Q : VK} {us : List Value} {vs : List V} (F : FnOk X.prog X.w X.K X.mg X.base CX k f fd ps sp) (hr : Room k X.A) (hb : Binds X.K fd ps ds) (hd : Vals dvs ds) (hx : Passes CX X E)
    (I : Inv X pins σ H s) (r : Vals vs us) (h : sp (vs ++ dvs) H Q E) : wpAny (model X.prog X.w) X.A (call (.ref f) us) (EP X pins σ Q) X.xe s := by
  have r2 : Vals (vs ++ dvs) (us ++ ds) := r.append hd
  have hl : (us ++ ds).length = ps.length := by rw [← r2.length]; exact F.len _ _ _ _ h
  refine wpAny_call (codeAny_mono (F.run X.A X.stack s H ⟨us, []⟩ (us ++ ds) (vs ++ dvs) Q E hr I.env0 (hb s us I.kIn hl) r2 h) fun r s' hq => ?_)
  cases r with
  | error e => exact hx pins σ H s e s' I hq
  | ok fl =>
    cases fl with
    | ret u => exact I.after hq
    | next => exact False.elim hq
    | brk => exact False.elim hq
    | cont => exact False.elim hq

theorem pe_call (F : FnOk X.prog X.w X.K X.mg X.base CX k f fd ps sp) (hr : Room k X.A) (hg : Gl X x) (hm : X.mg x = some (.ref f)) (hk : PySem.W.keepIn X.K (.ref f) = true) (hb : Binds X.K fd ps ds) (hd : Vals dvs ds) (hx : Passes CX X E)
    (ha : PA X (e :: es) t) (hdb : (x == ("__debug__" : Str)) = false := by decide) (he : starEach (e :: es) X.env = (false, eval e X.env) :: starEach es X.env := by rfl) (hpl : (backTo pos (starEach es X.env)).any (·.1) = false := by rfl) :
    PE X (.Call (.Name x p) (e :: es) [] pos) (tCall sp dvs E t) := by
  intro pins s σ H Q I h
  refine wpAny_Call_Name_kw (ld_glob I hg hm ?_ hdb)
  refine PySem.W.callWith_K (h₀ := X.base) I.ok.mod.kin hk (thn (ha pos pins s σ H _ I h) fun us s1 ⟨vs, H1, I1, r, q⟩ => ⟨I1.kIn, ?_⟩) he hpl
  exact run_fn F hr hb hd hx I1 r q
end

/-! ### keywords -/
section
variable {X : Cx} {CX : CXT} {k : Nat} {f C : Addr} {fd : FuncData} {ps ks : List Str} {sp : Sp} {E : XK} {x m : Str} {p pos apos kpos : Pos} {e o : Expr} {es : List Expr} {kws : List Keyword} {te ta : TE} {t tk : TA} {nm : Option Str}
variable {g : List Value → List Value → List Value} {gV : List V → List V → List V}
end

/-! ### a def's body keeps its promise -/
/-- names: the parameters first -/
structure FnScope (N P : List Str) (sc : Scope) : Prop where
  kind : sc.kind = .function
  co : sc.isCoroutine = false
  gen : sc.isGenerator = false
  nd : N.Nodup
  pre : N.take P.length = P
  par : ∀ x ∈ P, sc.names.lookup x = some .local ∨ sc.names.lookup x = some .cell
  nofree : ∀ y ∈ sc.names, y.2 ≠ .free

theorem bindL_out {kindOf : Str → Option NameKind} {x : Str} : ∀ {binds : List (Str × Value)} {m : Str → Option Value}, (∀ v, (x, v) ∉ binds) → bindL kindOf binds m x = m x
  | [], _, _ => rfl
  | (n, v) :: r, m, h => by
    unfold bindL
    rw [bindL_out fun w hw => h w (List.mem_cons_of_mem _ hw)]
    split
    · have : x ≠ n := by rintro rfl; exact h v List.mem_cons_self
      simp [this]
    · rfl
theorem bindC_out {kindOf : Str → Option NameKind} {x : Str} : ∀ {binds : List (Str × Value)} {m : Str → Option Value}, (∀ v, (x, v) ∉ binds) → bindC kindOf binds m x = m x
  | [], _, _ => rfl
  | (n, v) :: r, m, h => by
    unfold bindC
    rw [bindC_out fun w hw => h w (List.mem_cons_of_mem _ hw)]
    split
    · rfl
    · have : x ≠ n := by rintro rfl; exact h v List.mem_cons_self
      simp [this]
theorem bindL_get {kindOf : Str → Option NameKind} {x : Str} {v : Value} : ∀ {P : List Str} {vs : List Value} {i : Nat} {m : Str → Option Value}, P.Nodup → P[i]? = some x → vs[i]? = some v → kindOf x = some .local →
    bindL kindOf (P.zip vs) m x = some v
  | [], _, _, _, _, h, _, _ => by simp at h
  | _ :: _, [], _, _, _, _, h, _ => by simp at h
  | p :: P, w :: vs, 0, m, nd, h1, h2, hk => by
    simp at h1 h2; subst h1; subst h2
    show bindL kindOf ((p, w) :: P.zip vs) m p = _
    unfold bindL
    rw [bindL_out fun v hv => (List.nodup_cons.mp nd).1 (List.of_mem_zip hv).1, if_pos hk]
    simp
  | p :: P, w :: vs, i + 1, m, nd, h1, h2, hk => by
    show bindL kindOf ((p, w) :: P.zip vs) m x = _
    unfold bindL
    exact bindL_get (i := i) (List.nodup_cons.mp nd).2 (by simpa using h1) (by simpa using h2) hk
theorem bindC_get {kindOf : Str → Option NameKind} {x : Str} {v : Value} : ∀ {P : List Str} {vs : List Value} {i : Nat} {m : Str → Option Value}, P.Nodup → P[i]? = some x → vs[i]? = some v → kindOf x ≠ some .local →
    bindC kindOf (P.zip vs) m x = some v
  | [], _, _, _, _, h, _, _ => by simp at h
  | _ :: _, [], _, _, _, _, h, _ => by simp at h
  | p :: P, w :: vs, 0, m, nd, h1, h2, hk => by
    simp at h1 h2; subst h1; subst h2
    show bindC kindOf ((p, w) :: P.zip vs) m p = _
    unfold bindC
    rw [bindC_out fun v hv => (List.nodup_cons.mp nd).1 (List.of_mem_zip hv).1, if_neg hk]
    simp
  | p :: P, w :: vs, i + 1, m, nd, h1, h2, hk => by
    show bindC kindOf ((p, w) :: P.zip vs) m x = _
    unfold bindC
    exact bindC_get (i := i) (List.nodup_cons.mp nd).2 (by simpa using h1) (by simpa using h2) hk

/-- the names' values at the entry -/
def start (N : List Str) (vs : List V) : St := vs.map some ++ List.replicate (N.length - vs.length) none

/-- the context of a def's body, at its entry; an exception leaves the frame, then lies as CX says -/
def cxOf (CX : CXT) (P : Program) (w : World) (K : PySem.W.Frag) (mg : Str → Option Value) (base : Heap) (N : List Str) (qual : Str) (scope : Scope) (f : Addr) (cd : Value) (A : Around) (outer : List Env) (s : Shared) (H : Hp) (E : XK) : Cx where
  prog := P
  w := w
  K := K
  mg := mg
  base := base
  A := A.deeper (envOfC qual scope s.heap.objs.size f cd)
  N := N
  s_0 := s
  H_0 := H
  env := envOfC qual scope s.heap.objs.size f cd
  outer := outer
  stack := envOfC qual scope s.heap.objs.size f cd :: outer
  ex := []
  calm := true
  fn := fun _ => true
  pn := []
  xe := fun e s' => wpAny (model P w) (A.deeper (envOfC qual scope s.heap.objs.size f cd)) (leaving (envOfC qual scope s.heap.objs.size f cd) e) (fun _ s'' => CX outer H s E e s'') (fun e' s'' => CX outer H s E e' s'') s'

theorem cell_has {sc : Scope} {n : Nat} {x : Str} (h : sc.names.lookup x = some .cell) : ∃ c, (cellsFrom n sc.names []).lookup x = some c := by
  have q := PySem.W.cellsFrom_some sc.names n [] (.inl h)
  exact Option.isSome_iff_exists.mp q

theorem inv_start {CX : CXT} {P : Program} {w : World} {K : PySem.W.Frag} {mg : Str → Option Value} {base : Heap} {N ps : List Str} {qual : Str} {scope : Scope} {f : Addr} {cd : Value} {A : Around} {outer : List Env} {s s1 : Shared} {H : Hp} {E : XK} {us : List Value} {vs : List V}
    (S : FnScope N ps scope) (hd : A.handled = none) (e0 : Env0 P w K mg base A outer s H) (hl : vs.length = ps.length) (r : Vals vs us)
    (x : InCallC s s.heap.objs.size (bindL (envOfC qual scope s.heap.objs.size f cd).kindOf (ps.zip us) fun _ => none) (cellsFrom (s.heap.objs.size + 1) scope.names []) (bindC (envOfC qual scope s.heap.objs.size f cd).kindOf (ps.zip us) fun _ => none) s1) :
    Inv (cxOf CX P w K mg base N qual scope f cd A outer s H E) [] (start N vs) H s1 := by
  have hpl : ps.length ≤ N.length := by have := congrArg List.length S.pre; rw [List.length_take] at this; omega
  obtain ⟨h1, tk, rfl, hk⟩ := x.done
  have noA : ∀ b : Addr, b ∉ (cxOf CX P w K mg base N qual scope f cd A outer s H E).ex := fun b z => absurd (show b ∈ ([] : List Addr) from z) (by simp)
  refine ⟨⟨e0.mod, S.kind, rfl, rfl, Nat.le_refl _, fun y z c h1 h2 => ?_, fun y hy => ?_, fun y c _ h => ?_, fun _ => hd, Around.frames_deeper e0.frames, .inr ⟨rfl, rfl⟩, fun b z => absurd z (noA b), e0.bs, e0.bsz, fun b _ _ => noA b, fun b z => absurd z (noA b), e0.funs, e0.frf⟩,
    rfl, e0.bare, Un.kept hk, ⟨_, x.toInCall.ns, fun i y v h1 h2 h3 => ?_⟩, fun y c h => ⟨_, x.cell y c h⟩, e0.hok.fresh (Nat.le_refl _), fun y c h => ?_, fun p hp => absurd (show p ∈ ([] : List (Addr × Obj)) from hp) (by simp), e0.hok.kept hk, ?_⟩
  · exact name_of_addr x.apart (PySem.mem_of_lookup h1) (PySem.mem_of_lookup h2)
  · have hy : scope.names.lookup y = some .cell ∨ scope.names.lookup y = some .free := hy
    rcases hy with hy | hy
    · exact cell_has hy
    · exact absurd rfl (S.nofree _ (PySem.mem_of_lookup hy))
  · exact Nat.le_of_lt (x.above y c (PySem.mem_of_lookup h))
  · have hi : i < vs.length := by
      unfold start at h2
      by_cases hi : i < vs.length
      · exact hi
      · rw [List.getElem?_append_right (by simpa using hi)] at h2
        rw [List.getElem?_replicate] at h2
        split at h2 <;> cases h2
    have ha : vs[i]? = some v := by
      unfold start at h2
      rw [List.getElem?_append_left (by simpa using hi), List.getElem?_map] at h2
      cases e : vs[i]? with
      | none => rw [e] at h2; cases h2
      | some a => rw [e] at h2; cases h2; rfl
    obtain ⟨u, hu, rv⟩ := r.get ha
    have hp : ps[i]? = some y := by
      rw [← S.pre, List.getElem?_take_of_lt (by omega)]; exact h1
    have ndP : ps.Nodup := by rw [← S.pre]; exact S.nd.sublist (List.take_sublist _ _)
    refine ⟨u, rv, ?_⟩
    rcases S.par y (List.mem_of_getElem? hp) with k | k
    · exact .inl ⟨k, bindL_get ndP hp hu k⟩
    · obtain ⟨c, e⟩ := cell_has (n := s.heap.objs.size + 1) k
      refine .inr ⟨.inl k, c, e, ?_⟩
      have q := x.cell y c e
      rw [bindC_get ndP hp hu (by show scope.names.lookup y ≠ _; rw [k]; decide)] at q
      exact q
  · exact e0.hok.fresh (Nat.le_of_lt (x.above y c (PySem.mem_of_lookup h)))
  · unfold start
    show _ = N.length
    rw [List.length_append, List.length_map, List.length_replicate]
    omega

/-- THE RULE: a def (or a method) of the text, by its body. The body's reading t is chosen for each entry; it is run at the parameters' values -/
theorem fn_of {CX : CXT} {P : Program} {w : World} {K : PySem.W.Frag} {mg : Str → Option Value} {base : Heap} {k : Nat} {f : Addr} {name qual : Str} {params : Arguments} {body : List Stmt} {scope : Scope} {dV kV doc pm cdv ct oc : Value} {an od : Option Addr}
    {osl : Array (Option Value)} {N ps : List Str} {sp : Sp} (lk : K.lookup f = some ⟨oc, od, .func (PySem.W.fnOf name qual params body scope dV kV doc pm an cdv ct), osl⟩) (hcd : PySem.W.codeIn K cdv qual = true) (S : FnScope N ps scope)
    (len : ∀ vs H Q E, sp vs H Q E → vs.length = ps.length)
    (hbody : ∀ (A : Around) (outer : List Env) (s : Shared) (H : Hp) (vs : List V) (Q : VK) (E : XK), Room k (A.deeper (envOfC qual scope s.heap.objs.size f cdv)) → sp vs H Q E →
      ∃ t, PSs (cxOf CX P w K mg base N qual scope f cdv A outer s H E) body t ∧ t { nx := fun _ H' => Q .non H', rt := Q } (start N vs) H) :
    FnOk P w K mg base CX (k + 1) f (PySem.W.fnOf name qual params body scope dV kV doc pm an cdv ct) ps sp := by
  refine ⟨len, fun A outer s H args us vs Q E hr e0 hb r hsp => ?_⟩
  have hl := len _ _ _ _ hsp
  have KX : K.In s.heap := e0.mod.kin.keeps fun b o e => (e0.bs b o e).1
  have lim : s.heap.NoLimit := e0.mod.nolimit.keeps fun b o e => (e0.bs b o e).1
  have hkind : ∀ y ∈ ps.zip us, scope.names.lookup y.1 = some .local ∨ (scope.names.lookup y.1 = some .cell ∧ ((cellsFrom (s.heap.objs.size + 1) scope.names []).lookup y.1).isSome = true) := fun ⟨n, v⟩ hy => by
    rcases S.par n (List.of_mem_zip hy).1 with q | q
    · exact .inl q
    · exact .inr ⟨q, PySem.W.cellsFrom_some _ _ _ (.inl q)⟩
  refine codeAny_call_function hr.depth (KX _ _ lk) rfl S.co S.gen rfl (PySem.W.codeRec_of KX hcd) (hb _ _ _ _ ?_)
  refine wpAny_newFunctionEnv_cells S.kind hkind fun env he s1 x => ?_
  subst he
  refine ⟨lim.keeps x.toInCall.keep, codeAny_func ?_⟩
  obtain ⟨t, ht, hq⟩ := hbody A outer s H vs Q E (hr.deeper _) hsp
  have I : Inv (cxOf CX P w K mg base N qual scope f cdv A outer s H E) [] (start N vs) H s1 := inv_start S hr.hd e0 hl r x
  refine wpAny_mono (ht [] s1 (start N vs) H _ I hq) (fun fl s' hs => ?_) fun e s' hs => hs
  have fin : ∀ {σ' : St} {H' : Hp} {v : V} {u : Value}, Inv (cxOf CX P w K mg base N qual scope f cdv A outer s H E) [] σ' H' s' → RelV v u → Q v H' → CE outer P w H s Q u s' :=
    fun {σ' H' v u} J rv q => ⟨v, H', J.os, J.bare, J.base, J.hok, rv, q⟩
  cases fl with
  | ret u =>
    obtain ⟨v, σ', H', J, rv, q⟩ := hs
    exact fin J rv q
  | next =>
    obtain ⟨σ', H', J, q⟩ := hs
    exact fin (v := V.non) (u := Value.none) J rfl q
  | brk =>
    obtain ⟨_, _, _, q⟩ := hs
    exact False.elim q
  | cont =>
    obtain ⟨_, _, _, q⟩ := hs
    exact False.elim q
end L2

namespace L2
open PySem PySem.Spec PyProof.Rows
section
variable {X : Cx} {x : Str} {p pos : Pos} {e : Expr} {es : List Expr} {t : TA} {id T : String} {r : List V → Hp → VK → Prop}

def tCB (r : List V → Hp → VK → Prop) (t : TA) : TE := fun σ H Q => t σ H fun vs H1 => r vs H1 Q
/-- f(e, ..), f a built-in function -/
theorem pe_callB (hc : CallR X (.builtin id) r) (hg : Gl X x) (hm : X.mg x = none) (hv : bootBuiltins x = some (.builtin id)) (ha : PA X (e :: es) t) (hn : x ≠ "__name__" := by decide) (hdb : (x == ("__debug__" : Str)) = false := by decide)
    (he : starEach (e :: es) X.env = (false, eval e X.env) :: starEach es X.env := by rfl) (hpl : (backTo pos (starEach es X.env)).any (·.1) = false := by rfl) : PE X (.Call (.Name x p) (e :: es) [] pos) (tCB r t) := by
  intro pins s σ H Q I h
  refine wpAny_Call_Name_kw (ld_blt I hg hm hv ?_ hn hdb)
  exact PyProof.Rows.callWith_builtin1 (thn (ha pos pins s σ H _ I h) fun us s1 ⟨vs, H1, I1, r1, q1⟩ => hc pins s1 σ H1 vs us Q I1 r1 q1) he hpl
/-- T(e, ..), T a built-in type -/
theorem pe_callTy (hc : CallR X (.type T) r) (hg : Gl X x) (hm : X.mg x = none) (hv : bootBuiltins x = some (.type T)) (ha : PA X (e :: es) t) (hn : x ≠ "__name__" := by decide) (hdb : (x == ("__debug__" : Str)) = false := by decide)
    (he : starEach (e :: es) X.env = (false, eval e X.env) :: starEach es X.env := by rfl) (hpl : (backTo pos (starEach es X.env)).any (·.1) = false := by rfl) : PE X (.Call (.Name x p) (e :: es) [] pos) (tCB r t) := by
  intro pins s σ H Q I h
  refine wpAny_Call_Name_kw (ld_blt I hg hm hv ?_ hn hdb)
  exact PyProof.Rows.callWith_type1 (thn (ha pos pins s σ H _ I h) fun us s1 ⟨vs, H1, I1, r1, q1⟩ => hc pins s1 σ H1 vs us Q I1 r1 q1) he hpl
end
end L2

namespace HT
open PySem PyProof.Rows

section
open PySem.SeqAt
open PySem.AutoSeq1 (wpAny_loadPart')
open PySem.MeetsSeq PySem.MeetsSeq2 PySem.MeetsSeq3

end

section
variable {prog : Program} {w : World} {A : Around} {E : Value → Shared → Prop} {s : Shared}

/-! ### t[a:b], not the whole -/
/-- a slice's bound as a place among n (d where it is left out) -/
def sIx (n d : Nat) : Option Int → Nat
  | none => d
  | some v => if v < 0 then (v + (n : Int)).toNat else min v.toNat n
end
end HT

namespace L2
open PySem PySem.Spec PyProof.Rows

/-! ### the parts of a slice -/
abbrev TO := St → Hp → (Option Int → Hp → Prop) → Prop
/-- a slice's part (left out, or an int) -/
def PO (X : Cx) (e : Option Expr) (t : TO) : Prop :=
  ∀ (pins : List (Addr × Obj)) (s : Shared) (σ : St) (H : Hp) (Q : Option Int → Hp → Prop), Inv X pins σ H s → t σ H Q →
    wpAny (model X.prog X.w) X.A (evalPart e X.env) (fun u s' => ∃ o H', Inv X pins σ H' s' ∧ IsPart u o ∧ Q o H') X.xe s
def tNoPart : TO := fun _ H Q => Q none H
def tPart (t : TE) : TO := fun σ H Q => t σ H fun x H1 => ∃ i, x = .int i ∧ Q (some i) H1

section
variable {X : Cx} {e : Expr} {te : TE} {lo hi : Option Expr} {tl th : TO} {pos p2 : Pos}

theorem po_none : PO X none tNoPart := by
  intro pins s σ H Q I h
  rw [evalPart_none]
  exact wpAny_pure ⟨none, H, I, .none, h⟩
theorem po_some (h : PE X e te) : PO X (some e) (tPart te) := by
  intro pins s σ H Q I hw
  rw [evalPart_some]
  refine thn (h pins s σ H _ I hw) fun u s1 ⟨x, H1, I1, r1, q1⟩ => ?_
  obtain ⟨i, rfl, q⟩ := q1
  obtain ⟨t, rfl⟩ := r1
  exact ⟨some i, H1, I1, .int i t, q⟩

/-- what a slice of a value is, by values: the slice object stands at sl -/
def SlR (X : Cx) (r : V → Option Int → Option Int → Hp → VK → Prop) : Prop :=
  ∀ (pins : List (Addr × Obj)) (s : Shared) (σ : St) (H : Hp) (x : V) (v vl vu : Value) (lo hi : Option Int) (sl : Addr) (Q : VK), Inv X pins σ H s → RelV x v → s.heap.IsSliceOf sl vl vu .none → IsPart vl lo → IsPart vu hi → r x lo hi H Q →
    ∃ T id, typeLookup (.type T) "__getitem__" = pure (some (.builtin id)) ∧ s.TypeIs v T ∧ wpAny (model X.prog X.w) X.A (getItem v (.ref sl)) (EP X pins σ Q) X.xe s
def tSl (r : V → Option Int → Option Int → Hp → VK → Prop) (te : TE) (tl th : TO) : TE := fun σ H Q => te σ H fun x H1 => tl σ H1 fun l H2 => th σ H2 fun u H3 => r x l u H3 Q
/-- a[lo:hi], any a -/
theorem pe_slice {r : V → Option Int → Option Int → Hp → VK → Prop} (hr : SlR X r) (he : PE X e te) (hl : PO X lo tl) (hu : PO X hi th) : PE X (.Subscript e (.Slice lo hi none p2) pos) (tSl r te tl th) := by
  intro pins s σ H Q I h
  refine Subscript_ (thn (he pins s σ H _ I h) fun v s1 ⟨x, H1, I1, r1, q1⟩ => ?_)
  refine wpAny_Slice (thn (hl pins s1 σ H1 _ I1 q1) fun vl s2 ⟨l, H2, I2, pl, q2⟩ => thn (hu pins s2 σ H2 _ I2 q2) fun vu s3 ⟨u, H3, I3, pu, q3⟩ => ?_)
  rw [evalPart_none]
  refine wpAny_pure ?_
  have I4 : Inv X pins σ H3 { s3 with heap := s3.heap.push { cls := .type "slice", data := .fields #[vl, vu, .none] } } := I3.kept (t' := s3.toks) fun b ob q => Heap.get?_push_of_some _ q
  obtain ⟨T, id, hT, ht, hg⟩ := hr pins { s3 with heap := s3.heap.push { cls := .type "slice", data := .fields #[vl, vu, .none] } } σ H3 x v vl vu l u s3.heap.objs.size Q I4 r1 (Heap.IsSliceOf.new ..) pl pu q3
  show wpAny (model X.prog X.w) X.A (subscriptTail e (.Slice lo hi none p2) v (.ref s3.heap.objs.size)) (EP X pins σ Q) X.xe { s3 with heap := s3.heap.push { cls := .type "slice", data := .fields #[vl, vu, .none] } }
  exact tail_any (ops := [.ref s3.heap.objs.size, v]) ht hT hg (by with_unfolding_all rfl)

/-- the items of xs[lo:hi] -/
def cutV (xs : List V) (lo hi : Option Int) : List V := (xs.drop (HT.sIx xs.length 0 lo)).take (HT.sIx xs.length xs.length hi - HT.sIx xs.length 0 lo)
theorem cutV_length (xs : List V) (lo hi : Option Int) : (cutV xs lo hi).length ≤ xs.length := by
  unfold cutV
  rw [List.length_take, List.length_drop]
  omega
/-! ### t < u, t + u -/
end
end L2

namespace L2
open PySem PySem.Spec PyProof.Rows

/-! ### places -/
/-- the place that an index of any sign means -/
def ixN (n : Nat) (i : Int) : Option Nat := if 0 ≤ i then (if i < n then some i.toNat else none) else if -(n : Int) ≤ i then some (i + n).toNat else none
def atI {α : Type} (xs : List α) (i : Int) : Option α := (ixN xs.length i).bind fun j => xs[j]?
theorem ixN_seq {n : Nat} {i : Int} {j : Nat} (h : ixN n i = some j) : seqIndex? i n = some j ∧ j < n ∧ -(n : Int) ≤ i ∧ i < n := by
  unfold ixN at h
  by_cases h0 : 0 ≤ i
  · rw [if_pos h0] at h
    by_cases h1 : i < n
    · rw [if_pos h1] at h
      have e : i.toNat = j := Option.some.inj h
      exact ⟨by rw [seqIndex_of h0 h1, e], by omega, by omega, h1⟩
    · rw [if_neg h1] at h; cases h
  · rw [if_neg h0] at h
    by_cases h1 : -(n : Int) ≤ i
    · rw [if_pos h1] at h
      have e : (i + n).toNat = j := Option.some.inj h
      exact ⟨by rw [seqIndex_neg (by omega) h1, e], by omega, h1, by omega⟩
    · rw [if_neg h1] at h; cases h
theorem atI_get {α : Type} {xs : List α} {i : Int} {v : α} (h : atI xs i = some v) : ∃ j, seqIndex? i xs.length = some j ∧ xs[j]? = some v ∧ j < xs.length ∧ -(xs.length : Int) ≤ i ∧ i < xs.length := by
  unfold atI at h
  cases e : ixN xs.length i with
  | none => rw [e] at h; cases h
  | some j =>
    rw [e] at h
    obtain ⟨h1, h2, h3, h4⟩ := ixN_seq e
    exact ⟨j, h1, h, h2, h3, h4⟩
theorem atI_nat {α : Type} {xs : List α} {j : Nat} {v : α} (h : xs[j]? = some v) : atI xs (j : Int) = some v := by
  have hj : j < xs.length := (List.getElem?_eq_some_iff.mp h).1
  have e : ixN xs.length (j : Int) = some j := by
    unfold ixN
    rw [if_pos (by omega), if_pos (by omega)]; simp
  unfold atI; rw [e]; exact h
/-! ### what may be subscripted -/
/-- what stands as an index of a plain subscript -/
def PlainIx (b : Expr) : Prop := ∀ o i, subscripted b false o i = operate [o, i] (getItem o i)
/-- a subscript by values -/
def IxR (X : Cx) (r : R2) : Prop :=
  ∀ (value slice : Expr) (pins : List (Addr × Obj)) (s : Shared) (σ : St) (H : Hp) (x y : V) (v u : Value) (Q : VK), Inv X pins σ H s → RelV x v → RelV y u → r x y H Q →
    subscripted slice false v u = operate [v, u] (getItem v u) → wpAny (model X.prog X.w) X.A (subscriptTail value slice v u) (EP X pins σ Q) X.xe s
/-- a call of a builtin's method by values: the receiver, the arguments -/
def MtR (X : Cx) (id : String) (r : V → List V → Hp → VK → Prop) : Prop :=
  ∀ (pins : List (Addr × Obj)) (s : Shared) (σ : St) (H : Hp) (x : V) (xs : List V) (v : Value) (us : List Value) (Q : VK), Inv X pins σ H s → RelV x v → Vals xs us → r x xs H Q →
    wpAny (model X.prog X.w) X.A (call (.builtin id) (v :: us)) (EP X pins σ Q) X.xe s
section
variable {X : Cx} {a b : Expr} {ta tb : TE} {pos : Pos}
/-- a[b] -/
theorem pe_ix {r : R2} (hr : IxR X r) (ha : PE X a ta) (hb : PE X b tb) (hs : PlainIx b) : PE X (.Subscript a b pos) (tOp r ta tb) := by
  intro pins s σ H Q I h
  exact Subscript_ (binT ha hb I h fun v u s2 x y H2 I2 rx ry q => hr a b pins s2 σ H2 x y v u Q I2 rx ry q (hs _ _))

def rIxL (K : PySem.W.Frag) : R2 := fun x y H Q => ∃ p xs i v, x = .ref p ∧ y = .int i ∧ SqL K H p xs ∧ atI xs i = some v ∧ Q v H
def rIxS : R2 := fun x y H Q => ∃ z i c, x = .str z ∧ y = .int i ∧ z.length ≤ sizeLine ∧ atI z.cps.toList i = some c ∧ Q (.str ⟨#[c]⟩) H
theorem ix_list : IxR X (rIxL X.K) := by
  intro value slice pins s σ H x y v u Q I rx ry h hs
  obtain ⟨p, xs, i, z, rfl, rfl, hq, he, q⟩ := h
  cases rx
  obtain ⟨t, rfl⟩ := ry
  obtain ⟨its, r, pl, hz⟩ := I.list hq
  obtain ⟨j, h1, h2, h3, h4, h5⟩ := atI_get he
  obtain ⟨w, ew, rw'⟩ := r.get h2
  have hl := r.length
  have hn := line63
  have fin : EP X pins σ Q w s := ⟨z, H, I, rw', q⟩
  by_cases h0 : 0 ≤ i
  · have hj : i.toNat = j := by
      rw [seqIndex_of h0 h5] at h1
      exact Option.some.inj h1
    exact item_listR pl.isList h0 (by omega) (by rw [hj]; simpa using ew) fin hs
  · have hj : (i + (its.toArray.size : Int)).toNat = j := by
      rw [seqIndex_neg (by omega) h4] at h1
      rw [List.size_toArray, ← hl]
      exact Option.some.inj h1
    exact subscriptTail_builtinR (x := w) pl.isList.typeIs slot_list_getitem.lookup
      (wpAny_getItem_list_neg (Q := fun r s' => r = w ∧ EP X pins σ Q r s') pl.isList (by omega) (by rw [List.size_toArray] <;> omega) (by omega) (by rw [hj]; simpa using ew) ⟨rfl, fin⟩) hs
theorem ix_str : IxR X rIxS := by
  intro value slice pins s σ H x y v u Q I rx ry h hs
  obtain ⟨z, i, c, rfl, rfl, hz, he, q⟩ := h
  obtain ⟨t, rfl⟩ := rx
  obtain ⟨t', rfl⟩ := ry
  obtain ⟨j, h1, h2, h3, h4, h5⟩ := atI_get he
  have hl : z.cps.toList.length = z.length := by simp [Str.length]
  rw [hl] at h1 h4 h5
  have hn := line63
  exact tail_any (typeIs_str s z t) slot_str_getitem.lookup (getItem_str (c := c) (by
    have e1 : decide (i < -(2 ^ 63 : Int)) = false := decide_eq_false (by omega)
    have e2 : decide (i ≥ 2 ^ 63) = false := decide_eq_false (by omega)
    rw [e1, e2, Bool.or_false]) (by rw [h1]; simpa using h2) ⟨.str ⟨#[c]⟩, H, I.tok _, ⟨_, rfl⟩, q⟩) hs
/-! ### xs[i] = v, any sign -/
/-- the list's object behind a store -/
theorem mapSeq_set (its : List Value) (n j : Nat) (u : Value) : Obj.mapSeq (·.setIfInBounds j u) { cls := .type "list", data := .seq its.toArray n } = { cls := .type "list", data := .seq (its.set j u).toArray n } := by
  simp [Obj.mapSeq]
theorem Inv.lst {pins : List (Addr × Obj)} {σ : St} {H : Hp} {s : Shared} {p : Addr} {xs : List V} (I : Inv X pins σ H s) (h : H p = some (.lst xs)) :
    ∃ (its : List Value) (n : Nat), Vals xs its ∧ s.heap.get? p = some { cls := .type "list", data := .seq its.toArray n } ∧ xs.length ≤ sizeLine := by
  obtain ⟨z, its, n, r, e⟩ := I.hok p _ h
  exact ⟨its, n, r, e, z⟩
/-- the list at p is written by an update of its object -/
theorem Inv.lstUpd {pins : List (Addr × Obj)} {σ : St} {H : Hp} {s : Shared} {p : Addr} {xs ys : List V} {its its' : List Value} {n n' : Nat} {f : Obj → Obj} (I : Inv X pins σ H s) (h : H p = some (.lst xs))
    (ho : s.heap.get? p = some { cls := .type "list", data := .seq its.toArray n }) (hf : f { cls := .type "list", data := .seq its.toArray n } = { cls := .type "list", data := .seq its'.toArray n' }) (r : Vals ys its') (hz : ys.length ≤ sizeLine) (t : Nat) :
    Inv X pins σ (upd H p (.lst ys)) { s with heap := s.heap.update p f, toks := t } := by
  have e : (s.heap.update p f).get? p = some { cls := .type "list", data := .seq its'.toArray n' } := by
    rw [Heap.get?_update_self f ho (by rw [hf] <;> rfl), hf]
  refine I.write (x := p) (e := p) (by rw [h]; trivial) (.inl rfl) (fun b u hb q => (Heap.get?_update_other _ _ (Ne.symm hb)).trans q) ⟨_, e⟩ ?_
  exact ⟨hz, its', n', r, e⟩
def rSetL : V → V → V → Hp → (Hp → Prop) → Prop := fun o i v H Q => ∃ p xs k j, o = .ref p ∧ i = .int k ∧ H p = some (.lst xs) ∧ ixN xs.length k = some j ∧ Q (upd H p (.lst (xs.set j v)))
theorem set_list : PSet X rSetL := by
  intro pins s σ H o i v ov iv u Q I ro ri rv h
  obtain ⟨p, xs, k, j, rfl, rfl, hp, hj, q⟩ := h
  cases ro
  obtain ⟨t, rfl⟩ := ri
  obtain ⟨its, n, r, ho, hz⟩ := I.lst hp
  obtain ⟨h1, h2, h3, h4⟩ := ixN_seq hj
  have hl := r.length
  have hn := line63
  have I' : Inv X pins σ (upd H p (.lst (xs.set j v))) { s with heap := s.heap.update p (Obj.mapSeq (·.setIfInBounds j u)) } :=
    I.lstUpd hp ho (mapSeq_set its n j u) (r.set rv j) (by rw [List.length_set]; exact hz) s.toks
  by_cases h0 : 0 ≤ k
  · have hk : k.toNat = j := by
      rw [seqIndex_of h0 h4] at h1
      exact Option.some.inj h1
    exact PySem.W.ki_setAt ho h0 (by omega) (by rw [List.size_toArray, ← hl]; exact h4) (by rw [hk]; exact ⟨_, I', q⟩)
  · have hk : (k + (its.toArray.size : Int)).toNat = j := by
      rw [seqIndex_neg (by omega) h3] at h1
      rw [List.size_toArray, ← hl]
      exact Option.some.inj h1
    exact PySem.W.ki_setBack ho (by omega) (by rw [List.size_toArray, ← hl]; exact h3) (by omega) (by rw [hk]; exact ⟨_, I', q⟩)

/-! ### slices -/
theorem slice_bounds (lo hi : Option Int) (n : Nat) : (sliceBounds lo hi none n).1 = ((HT.sIx n 0 lo : Nat) : Int) ∧ (sliceBounds lo hi none n).2.1 = ((HT.sIx n n hi : Nat) : Int) ∧ (sliceBounds lo hi none n).2.2 = 1 := by
  refine ⟨?_, ?_, rfl⟩
  · cases lo with
    | none => simp [sliceBounds, HT.sIx]
    | some i =>
      simp only [sliceBounds, HT.sIx, Option.getD_none, show (1 : Int) > 0 by decide, if_true]
      by_cases h : i < 0
      · simp only [h, if_true] <;> omega
      · simp only [h, if_false] <;> omega
  · cases hi with
    | none => simp [sliceBounds, HT.sIx]
    | some i =>
      simp only [sliceBounds, HT.sIx, Option.getD_none, show (1 : Int) > 0 by decide, if_true]
      by_cases h : i < 0
      · simp only [h, if_true] <;> omega
      · simp only [h, if_false] <;> omega
theorem slicePick_cut (its : List Value) (lo hi : Option Int) : slicePick its.toArray lo hi none = ((its.drop (HT.sIx its.length 0 lo)).take (HT.sIx its.length its.length hi - HT.sIx its.length 0 lo)).toArray := by
  obtain ⟨h1, h2, h3⟩ := slice_bounds lo hi its.toArray.size
  unfold slicePick
  rw [h1, h2, h3]
  simp only [sliceRange_one, pick_run, List.size_toArray] <;> rfl
/-- xs[lo:hi] of a list: a new list -/
def rSlL (K : PySem.W.Frag) : V → Option Int → Option Int → Hp → VK → Prop := fun x lo hi H Q => ∃ a xs, x = .ref a ∧ SqL K H a xs ∧ ∀ p, H p = none → Q (.ref p) (upd H p (.lst (cutV xs lo hi)))
theorem sl_list : SlR X (rSlL X.K) := by
  intro pins s σ H x v vl vu lo hi sl Q I rx hs pl pu h
  obtain ⟨a, xs, rfl, hx, q⟩ := h
  cases rx
  obtain ⟨its, r, ht, hz⟩ := I.list hx
  have hlen := r.length
  refine ⟨"list", _, slot_list_getitem.lookup, ht.isList.typeIs, ?_⟩
  refine wpAny_getItem_list_slice ht.isList hs pl pu .none (by simp) ?_ (by rw [List.size_toArray] <;> omega)
  rw [slicePick_cut, ← hlen]
  refine ⟨.ref s.heap.objs.size, _, I.laid (t' := s.toks) (o := .lst (cutV xs lo hi)) (fun b ob q => Heap.get?_push_of_some _ q) (Nat.le_refl _) ?_, rfl, q _ (I.hok.fresh (Nat.le_refl _))⟩
  exact ⟨Nat.le_trans (cutV_length xs lo hi) hz, _, 0, (r.drop (HT.sIx xs.length 0 lo)).take (HT.sIx xs.length xs.length hi - HT.sIx xs.length 0 lo), Heap.get?_push_size _ rfl⟩

/-! ### in, not in: flat items -/
def flatV : V → Bool
  | .non => true
  | .bl _ => true
  | .int _ => true
  | .str _ => true
  | _ => false
/-- == of flat values -/
def eqV : V → V → Bool
  | .non, .non => true
  | .bl a, .bl b => a == b
  | .bl a, .int b => (if a then 1 else 0) == b
  | .int a, .bl b => a == (if b then 1 else 0)
  | .int a, .int b => a == b
  | .str a, .str b => a == b
  | _, _ => false
theorem eqAt_V {A : Around} {s : Shared} {y x : V} {u v : Value} (ry : RelV y u) (rx : RelV x v) (fy : flatV y = true) (fx : flatV x = true) : SeqAt.EqAt A s u v (eqV y x) := by
  cases y with
  | non =>
    cases ry
    cases x with
    | non => cases rx; exact SeqAt.EqAt.same _
    | bl b => cases rx; exact SeqAt.EqAt.none_bool b
    | int b => obtain ⟨t, rfl⟩ := rx; exact SeqAt.EqAt.none_int b t
    | str b => obtain ⟨t, rfl⟩ := rx; exact SeqAt.EqAt.none_str b t
    | _ => exact absurd (show false = true from fx) Bool.false_ne_true
  | bl a =>
    cases ry
    cases x with
    | non => cases rx; exact SeqAt.EqAt.bool_none a
    | bl b => cases rx; exact SeqAt.EqAt.bool_bool a b
    | int b => obtain ⟨t, rfl⟩ := rx; exact SeqAt.EqAt.bool_int a b t
    | str b => obtain ⟨t, rfl⟩ := rx; exact SeqAt.EqAt.bool_str a b t
    | _ => exact absurd (show false = true from fx) Bool.false_ne_true
  | int a =>
    obtain ⟨t', rfl⟩ := ry
    cases x with
    | non => cases rx; exact SeqAt.EqAt.int_none a t'
    | bl b => cases rx; exact SeqAt.EqAt.int_bool a t' b
    | int b => obtain ⟨t, rfl⟩ := rx; exact SeqAt.EqAt.int_int a t' b t
    | str b => obtain ⟨t, rfl⟩ := rx; exact SeqAt.EqAt.int_str a t' b t
    | _ => exact absurd (show false = true from fx) Bool.false_ne_true
  | str a =>
    obtain ⟨t', rfl⟩ := ry
    cases x with
    | non => cases rx; exact SeqAt.EqAt.str_none a t'
    | bl b => cases rx; exact SeqAt.EqAt.str_bool a t' b
    | int b => obtain ⟨t, rfl⟩ := rx; exact SeqAt.EqAt.str_int a t' b t
    | str b => obtain ⟨t, rfl⟩ := rx; exact SeqAt.EqAt.str_str a t' b t
    | _ => exact absurd (show false = true from fx) Bool.false_ne_true
  | _ => exact absurd (show false = true from fy) Bool.false_ne_true
/-- the items' answers, read off the values (a value's own answer does not lean on its token) -/
def eqU (x : V) (u : Value) : Bool := match u with
  | .none => eqV .non x
  | .bool b => eqV (.bl b) x
  | .int i _ => eqV (.int i) x
  | .str z _ => eqV (.str z) x
  | _ => false
theorem eqU_of {x y : V} {u : Value} (r : RelV y u) (f : flatV y = true) : eqU x u = eqV y x := by
  cases y with
  | non => cases r; rfl
  | bl b => cases r; rfl
  | int i => obtain ⟨t, rfl⟩ := r; rfl
  | str z => obtain ⟨t, rfl⟩ := r; rfl
  | _ => exact absurd (show false = true from f) Bool.false_ne_true
theorem any_eqU {x : V} : ∀ {xs : List V} {us : List Value}, Vals xs us → xs.all flatV = true → us.any (eqU x) = xs.any fun y => eqV y x
  | _, _, .nil, _ => rfl
  | y :: xs, u :: us, .cons r t, f => by
    rw [List.all_cons, Bool.and_eq_true] at f
    rw [List.any_cons, List.any_cons, eqU_of r f.1, any_eqU t f.2]
theorem mem_eqAt {A : Around} {s : Shared} {x : V} {v : Value} (rx : RelV x v) (fx : flatV x = true) : ∀ {xs : List V} {us : List Value}, Vals xs us → xs.all flatV = true → ∀ u ∈ us, SeqAt.EqAt A s u v (eqU x u)
  | _, _, .nil, _ => fun u hu => by cases hu
  | y :: xs, u :: us, .cons r t, f => fun u' hu => by
    rw [List.all_cons, Bool.and_eq_true] at f
    rcases List.mem_cons.mp hu with rfl | hu
    · rw [eqU_of r f.1]; exact eqAt_V r rx f.1 fx
    · exact mem_eqAt rx fx t f.2 u' hu
def inV (x : V) (xs : List V) : Bool := xs.any fun y => eqV y x
/-- x in a list or tuple of flat items -/
def rIn (K : PySem.W.Frag) (neg : Bool) : R2 := fun x y H Q => ∃ p xs, y = .ref p ∧ (SqL K H p xs ∨ SqT K H p xs) ∧ flatV x = true ∧ xs.all flatV = true ∧ Q (.bl (if neg then !inV x xs else inV x xs)) H
theorem op_in_seq : OpR X (compareOp .In) (rIn X.K false) := by
  intro pins s σ H x y v u Q I rx ry h
  obtain ⟨p, xs, rfl, hq, fx, fs, q⟩ := h
  cases ry
  rcases hq with hq | hq
  · obtain ⟨its, r, pl, hz⟩ := I.list hq
    refine SeqAt.in_listAt (eqU x) pl.isList (fun w hw => mem_eqAt rx fx r fs w (by simpa using hw)) ⟨.bl _, H, I, rfl, ?_⟩
    rw [show its.toArray.any (eqU x) = its.any (eqU x) by simp, any_eqU r fs]
    exact q
  · obtain ⟨its, r, pl, hz⟩ := I.tuple hq
    refine SeqAt.in_tupleAt (eqU x) pl (fun w hw => mem_eqAt rx fx r fs w (by simpa using hw)) ⟨.bl _, H, I, rfl, ?_⟩
    rw [show its.toArray.any (eqU x) = its.any (eqU x) by simp, any_eqU r fs]
    exact q
/-! ### len, list(x), tuple(x) of any list or tuple that is read -/
theorem call_len_seq : CallR X (.builtin "len") (fun xs H Q => ∃ p ys, xs = [.ref p] ∧ (SqL X.K H p ys ∨ SqT X.K H p ys) ∧ Q (.int ys.length) H) := by
  intro pins s σ H xs us Q I r h
  obtain ⟨p, ys, rfl, hq, q⟩ := h
  obtain ⟨u, rfl, rx⟩ := vals1 r
  cases rx
  have hn := line63
  rcases hq with hq | hq
  · obtain ⟨its, r', pl, hz⟩ := I.list hq
    have hlen := r'.length
    exact Calls.call_len_list pl.isList (by simp only [List.size_toArray] <;> omega) ⟨.int ys.length, H, I.tok _, ⟨s.toks + 1, by rw [List.size_toArray, hlen]⟩, q⟩
  · obtain ⟨its, r', pl, hz⟩ := I.tuple hq
    have hlen := r'.length
    exact len_tuple pl (by simp only [List.size_toArray] <;> omega) ⟨.int ys.length, H, I.tok _, ⟨s.toks + 1, by rw [List.size_toArray, hlen]⟩, q⟩
theorem call_list_of : CallR X (.type "list") (fun xs H Q => ∃ p ys, xs = [.ref p] ∧ (SqL X.K H p ys ∨ SqT X.K H p ys) ∧ ∀ l, H l = none → Q (.ref l) (upd H l (.lst ys))) := by
  intro pins s σ H xs us Q I r h
  obtain ⟨p, ys, rfl, hq, q⟩ := h
  obtain ⟨u, rfl, rx⟩ := vals1 r
  cases rx
  have fin : ∀ (its : List Value), Vals ys its → ys.length ≤ sizeLine → ∀ (h' : Heap) (c' : Nat), (∀ b o', s.heap.get? b = some o' → h'.get? b = some o') →
      h'.get? s.heap.objs.size = some { cls := .type "list", dict := none, data := .seq its.toArray c', slots := #[] } → EP X pins σ Q (.ref s.heap.objs.size) { s with heap := h' } := fun its r' hz h' c' kp e =>
    ⟨.ref s.heap.objs.size, _, I.laid (t' := s.toks) kp (Nat.le_refl _) (show ObjOk X.prog X.w _ h' _ (.lst ys) from ⟨hz, its, c', r', e⟩), rfl, q _ (I.hok.fresh (Nat.le_refl _))⟩
  rcases hq with hq | hq
  · obtain ⟨its, r', pl, hz⟩ := I.list hq
    have hlen := r'.length
    obtain ⟨o, ho, hc, n, hd⟩ := pl.isList
    exact call_list_seq p (.inl rfl) ho hc hd (fun h' c' kp e => fin its r' hz h' c' kp e) (by simp only [List.size_toArray] <;> omega)
  · obtain ⟨its, r', pl, hz⟩ := I.tuple hq
    have hlen := r'.length
    obtain ⟨o, ho, hc, n, hd⟩ := pl
    exact call_list_seq p (.inr rfl) ho hc hd (fun h' c' kp e => fin its r' hz h' c' kp e) (by simp only [List.size_toArray] <;> omega)
/-! ### the call of a builtin's method: o.m(..) -/
variable {o e : Expr} {es : List Expr} {to : TE} {t : TA} {name : Str} {apos cpos : Pos} {T id : String} {r : V → List V → Hp → VK → Prop}
end
end L2

namespace L2
open PySem PySem.Spec PyProof.Rows

/-! ### lists of values -/
theorem Vals.two : ∀ {x y : V} {us : List Value}, Vals [x, y] us → ∃ u v, us = [u, v] ∧ RelV x u ∧ RelV y v
  | _, _, _, .cons r (.cons q .nil) => ⟨_, _, rfl, r, q⟩
theorem Vals.rep {xs : List V} {us : List Value} (h : Vals xs us) : ∀ k : Nat, Vals (List.replicate k xs).flatten (List.replicate k us).flatten
  | 0 => .nil
  | k + 1 => by
    rw [List.replicate_succ, List.replicate_succ, List.flatten_cons, List.flatten_cons]
    exact Vals.append h (Vals.rep h k)
theorem foldl_rep (its : List Value) : ∀ (k : Nat) (acc : List Value),
    List.foldl (fun x1 x2 => x1 ++ x2) acc.toArray (List.replicate k its.toArray) = (acc ++ (List.replicate k its).flatten).toArray
  | 0, acc => by simp
  | k + 1, acc => by
    have e : acc.toArray ++ its.toArray = (acc ++ its).toArray := by simp
    have e2 : (acc ++ its) ++ (List.replicate k its).flatten = acc ++ (List.replicate (k + 1) its).flatten := by
      rw [List.replicate_succ, List.flatten_cons, List.append_assoc]
    rw [← e2, ← foldl_rep its k (acc ++ its), ← e, List.replicate_succ, List.foldl_cons]

section
variable {X : Cx} {pins : List (Addr × Obj)} {σ : St} {H : Hp} {s : Shared} {l b : Addr} {xs ys zs : List V}

/-! ### the two steps: a tracked list is rewritten, a new list is laid -/
theorem Inv.lnew {its : List Value} {t' : Nat} (I : Inv X pins σ H s) (hv : Vals ys its) (hz : ys.length ≤ sizeLine) :
    Inv X pins σ (upd H s.heap.objs.size (.lst ys)) { s with heap := s.heap.push { cls := .type "list", data := .seq its.toArray }, toks := t' } :=
  I.laid (fun _ _ q => Heap.get?_push_of_some _ q) (Nat.le_refl _) ⟨hz, its, 0, hv, Heap.get?_push_size _ rfl⟩
theorem Inv.fresh (I : Inv X pins σ H s) : H s.heap.objs.size = none := I.hok.fresh (Nat.le_refl _)
theorem Inv.lstM (I : Inv X pins σ H s) (hH : H l = some (.lst xs)) : xs.length ≤ sizeLine ∧ ∃ (its : List Value) (n : Nat), Vals xs its ∧ xs.length = its.length ∧ s.heap.get? l = some { cls := .type "list", data := .seq its.toArray n } := by
  obtain ⟨z, its, n, r, e⟩ := I.hok l _ hH
  exact ⟨z, its, n, r, r.length, e⟩

theorem notLongL {n : Nat} (h : n ≤ sizeLine) : Builtin.List.listTooLong n = false := by
  unfold Builtin.List.listTooLong
  exact decide_eq_false (by omega)
end

section
variable {X : Cx}

/-! ### methods -/
/-! ### list + list, list += list, list * int -/
def rCat : R2 := fun x y H Q => ∃ l b xs zs, x = .ref l ∧ y = .ref b ∧ H l = some (.lst xs) ∧ H b = some (.lst zs) ∧ xs.length + zs.length ≤ sizeLine ∧ ∀ p, H p = none → Q (.ref p) (upd H p (.lst (xs ++ zs)))
theorem op_cat : OpR X (binaryOp .Add) rCat := by
  intro pins s σ H x y v u Q I rx ry h
  obtain ⟨l, b, xs, zs, rfl, rfl, hH, hB, hz, q⟩ := h
  cases rx
  cases ry
  obtain ⟨z, its, n, r, hl, e⟩ := I.lstM hH
  obtain ⟨z2, its2, n2, r2, hl2, e2⟩ := I.lstM hB
  refine PySem.P.add_list e e2 ?_ (by rw [List.size_toArray, List.size_toArray]; omega)
  have ea : its.toArray ++ its2.toArray = (its ++ its2).toArray := by simp
  rw [ea]
  exact ⟨.ref _, _, I.lnew (t' := s.toks) (r.append r2) (by rw [List.length_append]; omega), rfl, q _ I.fresh⟩
/-- a list times an int (a negative one is nothing) -/
def rRep : R2 := fun x y H Q => ∃ l k xs, x = .ref l ∧ y = .int k ∧ H l = some (.lst xs) ∧ -(2 ^ 63) ≤ k ∧ k < 2 ^ 63 ∧ xs.length * k.toNat ≤ sizeLine ∧
  ∀ p, H p = none → Q (.ref p) (upd H p (.lst (List.replicate k.toNat xs).flatten))
theorem len_rep {α : Type} (xs : List α) (k : Nat) : (List.replicate k xs).flatten.length = k * xs.length := by
  induction k with
  | zero => simp
  | succ k ih => rw [List.replicate_succ, List.flatten_cons, List.length_append, ih, Nat.succ_mul, Nat.add_comm]
theorem op_rep : OpR X (binaryOp .Mult) rRep := by
  intro pins s σ H x y v u Q I rx ry h
  obtain ⟨l, k, xs, rfl, rfl, hH, h1, h2, hz, q⟩ := h
  cases rx
  obtain ⟨t, rfl⟩ := ry
  obtain ⟨z, its, n, r, hl, e⟩ := I.lstM hH
  have hlen : its.toArray.size * k.toNat ≤ sizeLine := by rw [List.size_toArray, ← hl]; exact hz
  have hcap : ¬ its.toArray.size * k.toNat > (2 ^ 63 - 1) / 8 := by
    have : (sizeLine : Nat) ≤ (2 ^ 63 - 1) / 8 := by decide
    omega
  have hfit : ¬ (!Builtin.List.listFitsIndex k) = true := by
    rw [fitsIndex_both h1 h2]
    exact Bool.false_ne_true
  have hlong : ¬ Builtin.List.listTooLong (its.toArray.size * k.toNat) = true := by
    rw [notLongL hlen]
    exact Bool.false_ne_true
  have hnew : List.foldl (fun x1 x2 => x1 ++ x2) #[] (List.replicate (if its.toArray.isEmpty = true then 0 else k.toNat) its.toArray) = (List.replicate k.toNat its).flatten.toArray := by
    have f0 : ∀ m : Nat, List.foldl (fun x1 x2 => x1 ++ x2) #[] (List.replicate m its.toArray) = (List.replicate m its).flatten.toArray := fun m => by
      have := foldl_rep its m []
      rw [List.nil_append] at this
      exact this
    rw [f0]
    cases its with
    | nil => simp
    | cons a r' => rw [if_neg (by simp)]
  refine wpAny_binaryOp_repeat_ref (T := "list") (U := "int") (by decide) ⟨_, e, rfl⟩ (fun s' => typeIs_int s' k t) noFill_list_mul F.fills_int_mul F.slot_int_rmul repeat_list F.slot_int_index.lookup
    (call_meets F.slot_int_rmul (typeIs_int s k t) F.entry_int_rmul (F.args_int_rmul_2 _ _) (int___rmul___int_list k t l its.toArray n)
      ⟨e, rfl, ⟨_, e, rfl⟩, call_meets F.slot_list_mul ⟨_, e, rfl⟩ F.entry_list_mul (F.args_list_mul_2 _ _) (AutoListH.list___mul___list_int_3 l its.toArray n k t hfit hcap hlong) ⟨e, ?_⟩⟩)
  rw [hnew]
  exact ⟨.ref _, _, I.lnew (t' := s.toks) (r.rep k.toNat) (by rw [len_rep, Nat.mul_comm]; exact hz), rfl, q _ I.fresh⟩

/-! ### del xs[i] -/
end

/-! ### xs[a:b] = ys -/
section
variable {prog : Program} {w : World} {A : Around} {E : Value → Shared → Prop} {s : Shared}
end

section
variable {X : Cx}
end
end L2

namespace L2
open PySem PySem.Spec PyProof.Rows

theorem Vals.ref1 {a : Addr} {us : List Value} (r : Vals [V.ref a] us) : us = [Value.ref a] := by
  cases r with
  | cons r t =>
    cases t
    cases r
    rfl
/-! ### the library's walks over a list of ints, kept objects alone -/
section
variable {prog : Program} {w : World} {A : Around} {E : Value → Shared → Prop} {s : Shared} {l : Addr} {its : List Value} {ns : List Int} {Q : Value → Shared → Prop}
end

/-! ### the calls, by values (CallR of 03t; MtR of 06l) -/
section
variable {X : Cx}
/-! sorted, sort (fewer than 64 items: the library's own bound) -/
end

/-! ### list.index, flat items -/
section
variable {X : Cx}
end

/-! ### type(x) of an own instance; is, is not of a module's class -/
section
variable {X : Cx}
end

/-! ### any(xs), all(xs) of a list of bools -/
section
variable {X : Cx}
end

/-! ### == and != of data at any depth: none, bools, ints, texts, lists, tuples -/
mutual
inductive Dp (K : PySem.W.Frag) (H : Hp) : V → PyData → Prop
  | non : Dp K H .non .none
  | bl (b : Bool) : Dp K H (.bl b) (.bool b)
  | int (i : Int) : Dp K H (.int i) (.int i)
  | str (x : Str) : Dp K H (.str x) (.str x)
  | lst {a : Addr} {xs : List V} {ds : List PyData} : SqL K H a xs → DpAll K H xs ds → Dp K H (.ref a) (.list ds)
  | tup {a : Addr} {xs : List V} {ds : List PyData} : SqT K H a xs → DpAll K H xs ds → Dp K H (.ref a) (.tuple ds)
inductive DpAll (K : PySem.W.Frag) (H : Hp) : List V → List PyData → Prop
  | nil : DpAll K H [] []
  | cons {v : V} {vs : List V} {d : PyData} {ds : List PyData} : Dp K H v d → DpAll K H vs ds → DpAll K H (v :: vs) (d :: ds)
end
section
variable {X : Cx} {pins : List (Addr × Obj)} {σ : St} {H : Hp} {s : Shared}
mutual
theorem Dp.reads (I : Inv X pins σ H s) : ∀ (d : PyData) (v : V) (u : Value), Dp X.K H v d → RelV v u → ∃ as, Reads s.heap u d as
  | .none, _, _, h, r => by
    cases h
    cases r
    exact ⟨_, Reads.none⟩
  | .bool b, _, _, h, r => by
    cases h
    cases r
    exact ⟨_, Reads.bool b⟩
  | .int i, _, _, h, r => by
    cases h
    obtain ⟨t, rfl⟩ := r
    exact ⟨_, Reads.int i t⟩
  | .str x, _, _, h, r => by
    cases h
    obtain ⟨t, rfl⟩ := r
    exact ⟨_, Reads.str x t⟩
  | .list ds, _, _, h, r => by
    cases h with
    | lst hs ha =>
      cases r
      obtain ⟨its, rv, ⟨o, n, ho, hc, _, hd⟩, _⟩ := I.list hs
      obtain ⟨as, hr⟩ := Dp.readsAll I ds _ its ha rv
      exact ⟨_, Reads.list ho hc hd hr⟩
  | .tuple ds, _, _, h, r => by
    cases h with
    | tup hs ha =>
      cases r
      obtain ⟨its, rv, ⟨o, ho, hc, n, hd⟩, _⟩ := I.tuple hs
      obtain ⟨as, hr⟩ := Dp.readsAll I ds _ its ha rv
      exact ⟨_, Reads.tuple ho hc hd hr⟩
  | .dict _, _, _, h, _ => by cases h
theorem Dp.readsAll (I : Inv X pins σ H s) : ∀ (ds : List PyData) (vs : List V) (us : List Value), DpAll X.K H vs ds → Vals vs us → ∃ as, ReadsAll s.heap us ds as
  | [], _, _, h, r => by
    cases h
    cases r
    exact ⟨_, ReadsAll.nil⟩
  | d :: ds, _, _, h, r => by
    cases h with
    | cons h1 h2 =>
      cases r with
      | cons r1 r2 =>
        obtain ⟨as, q1⟩ := Dp.reads I d _ _ h1 r1
        obtain ⟨bs, q2⟩ := Dp.readsAll I ds _ _ h2 r2
        exact ⟨_, ReadsAll.cons q1 q2⟩
end
end
section
variable {X : Cx}
def rEqD (K : PySem.W.Frag) : R2 := fun x y H Q => ∃ d e, Dp K H x d ∧ Dp K H y e ∧ SeqAt.shaped d = true ∧ SeqAt.shaped e = true ∧ Q (.bl (PyData.eqv d e)) H
def rNeD (K : PySem.W.Frag) : R2 := fun x y H Q => ∃ d e, Dp K H x d ∧ Dp K H y e ∧ SeqAt.shaped d = true ∧ SeqAt.shaped e = true ∧ Q (.bl (!PyData.eqv d e)) H
theorem op_eqD (hu : X.A.units + 64 < cLine) : OpR X (compareOp .Eq) (rEqD X.K) := by
  intro pins s σ H x y v u Q I rx ry h
  obtain ⟨d, e, hd, he, sd, se, q⟩ := h
  obtain ⟨as, r1⟩ := Dp.reads I d x v hd rx
  obtain ⟨bs, r2⟩ := Dp.reads I e y u he ry
  exact SeqAt.compareEq_shaped r1 r2 sd se hu ⟨.bl _, H, I, rfl, q⟩
theorem op_neD (hu : X.A.units + 64 < cLine) : OpR X (compareOp .NotEq) (rNeD X.K) := by
  intro pins s σ H x y v u Q I rx ry h
  obtain ⟨d, e, hd, he, sd, se, q⟩ := h
  obtain ⟨as, r1⟩ := Dp.reads I d x v hd rx
  obtain ⟨bs, r2⟩ := Dp.reads I e y u he ry
  exact SeqAt.compareNe_shaped r1 r2 sd se hu ⟨.bl _, H, I, rfl, q⟩
end
end L2

namespace L2
open PySem PySem.Spec PyProof.Rows
abbrev CellAt (h : Heap) (c : Addr) (v : Option Value) : Prop := h.IsCell c v
def relS (scope sc : Scope) : Scope :=
  { scope with names := scope.names.map fun (n, k) => if (k == .free && sc.kind == .function && sc.names.lookup n == some .cell) then (n, .cell) else (n, k) }

def cloFrom (cells : List (Str × Addr)) : List (Str × NameKind) → List (Str × Addr) → List (Str × Addr)
  | [], acc => acc
  | (n, k) :: r, acc => if k == .free then cloFrom cells r ((n, (cells.lookup n).getD 0) :: acc) else cloFrom cells r acc

theorem closure_loop (env : Env) (f : Str × NameKind → List (Str × Addr) → Sem (ForInStep (List (Str × Addr))))
    (hf : ∀ n k c, f (n, k) c = if k == .free then (do let a ← cellOf env n; pure (.yield ((n, a) :: c))) else pure (.yield c)) :
    ∀ (names : List (Str × NameKind)) (acc : List (Str × Addr)), (∀ y ∈ names, y.2 = .free → ∃ c, env.cells.lookup y.1 = some c) → forIn names acc f = pure (cloFrom env.cells names acc)
  | [], acc, _ => by rw [List.forIn_nil]; rfl
  | (n, k) :: r, acc, h => by
    rw [List.forIn_cons, hf]
    have ih := fun acc => closure_loop env f hf r acc fun y hy => h y (List.mem_cons_of_mem _ hy)
    unfold cloFrom
    by_cases hk : (k == NameKind.free) = true
    · rw [if_pos hk, if_pos hk]
      obtain ⟨c, hc⟩ := h (n, k) List.mem_cons_self (by simpa using hk)
      have e : cellOf env n = pure c := by unfold cellOf; rw [hc]
      rw [e]
      have e2 : (env.cells.lookup n).getD 0 = c := by rw [hc]; rfl
      rw [e2]
      exact ih _
    · rw [if_neg hk, if_neg hk]
      exact ih _
theorem closure_ok {scope : Scope} {env : Env} (h : ∀ y ∈ scope.names, y.2 = .free → ∃ c, env.cells.lookup y.1 = some c) : closureFor scope env = pure (cloFrom env.cells scope.names []) := by
  simp only [closureFor]
  rw [closure_loop env _ (fun n k c => rfl) scope.names [] h]
  rfl

theorem mem_lookup {α : Type} : ∀ {l : List (Str × α)} {n : Str} {c : α}, (n, c) ∈ l → ∃ c', l.lookup n = some c'
  | (k, v) :: r, n, c, h => by
    rw [List.lookup_cons]
    cases hb : n == k with
    | true => exact ⟨_, rfl⟩
    | false =>
      rcases List.mem_cons.mp h with e | h
      · cases e; simp at hb
      · exact mem_lookup h

theorem cloFrom_mem {cells : List (Str × Addr)} : ∀ {names : List (Str × NameKind)} {acc : List (Str × Addr)} {n : Str} {c : Addr}, (n, c) ∈ cloFrom cells names acc → (n, c) ∈ acc ∨ ((n, .free) ∈ names ∧ c = (cells.lookup n).getD 0)
  | [], _, _, _, h => .inl h
  | (m, k) :: r, acc, n, c, h => by
    unfold cloFrom at h
    split at h
    · rename_i hk
      have hk : k = .free := by simpa using hk
      rcases cloFrom_mem h with h | ⟨h1, h2⟩
      · rcases List.mem_cons.mp h with e | h
        · cases e; exact .inr ⟨hk ▸ List.mem_cons_self, rfl⟩
        · exact .inl h
      · exact .inr ⟨List.mem_cons_of_mem _ h1, h2⟩
    · rcases cloFrom_mem h with h | ⟨h1, h2⟩
      · exact .inl h
      · exact .inr ⟨List.mem_cons_of_mem _ h1, h2⟩
theorem cloFrom_acc {cells : List (Str × Addr)} : ∀ {names : List (Str × NameKind)} {acc : List (Str × Addr)} {p : Str × Addr}, p ∈ acc → p ∈ cloFrom cells names acc
  | [], _, _, h => h
  | (m, k) :: r, acc, p, h => by
    unfold cloFrom
    split
    · exact cloFrom_acc (List.mem_cons_of_mem _ h)
    · exact cloFrom_acc h
theorem cloFrom_has {cells : List (Str × Addr)} : ∀ {names : List (Str × NameKind)} {acc : List (Str × Addr)} {n : Str}, (n, .free) ∈ names → (n, (cells.lookup n).getD 0) ∈ cloFrom cells names acc
  | (m, k) :: r, acc, n, h => by
    unfold cloFrom
    rcases List.mem_cons.mp h with e | h
    · cases e
      exact cloFrom_acc List.mem_cons_self
    · split
      · exact cloFrom_has h
      · exact cloFrom_has h

theorem cells_mem : ∀ {names : List (Str × NameKind)} {h : Heap} {acc : List (Str × Addr)} {x : Str} {c : Addr}, (x, c) ∈ cellsFrom h.objs.size names acc →
    (x, c) ∈ acc ∨ ((x, .cell) ∈ names ∧ h.objs.size ≤ c ∧ CellAt (pushCells h names) c none)
  | [], _, _, _, _, h => .inl h
  | (n, k) :: r, h, acc, x, c, hm => by
    unfold cellsFrom at hm
    unfold pushCells
    split at hm
    · rename_i hk
      rw [if_pos hk]
      have hk : k = .cell := by simpa using hk
      rw [← Heap.size_push h { cls := .type "cell", data := .cell none }] at hm
      rcases cells_mem hm with hm | ⟨h1, h2, h3⟩
      · rcases List.mem_cons.mp hm with e | hm
        · cases e
          exact .inr ⟨hk ▸ List.mem_cons_self, Nat.le_refl _, _, pushCells_keeps r _ _ _ (Heap.get?_push_size _ rfl), rfl⟩
        · exact .inl hm
      · rw [Heap.size_push] at h2
        exact .inr ⟨List.mem_cons_of_mem _ h1, Nat.le_of_succ_le h2, h3⟩
    · rename_i hk
      rw [if_neg hk]
      rcases cells_mem hm with hm | ⟨h1, h2, h3⟩
      · exact .inl hm
      · exact .inr ⟨List.mem_cons_of_mem _ h1, h2, h3⟩
theorem cells_acc : ∀ {names : List (Str × NameKind)} {n : Nat} {acc : List (Str × Addr)} {p : Str × Addr}, p ∈ acc → p ∈ cellsFrom n names acc
  | [], _, _, _, h => h
  | (m, k) :: r, n, acc, p, h => by
    unfold cellsFrom
    split
    · exact cells_acc (List.mem_cons_of_mem _ h)
    · exact cells_acc h
theorem cells_has : ∀ {names : List (Str × NameKind)} {n : Nat} {acc : List (Str × Addr)} {x : Str}, (x, .cell) ∈ names → ∃ c, (x, c) ∈ cellsFrom n names acc
  | (m, k) :: r, n, acc, x, h => by
    unfold cellsFrom
    rcases List.mem_cons.mp h with e | h
    · cases e
      exact ⟨n, cells_acc List.mem_cons_self⟩
    · split
      · exact cells_has h
      · exact cells_has h
theorem cells_inj : ∀ {names : List (Str × NameKind)} {h : Heap} {acc : List (Str × Addr)} {x y : Str} {c : Addr}, (∀ p ∈ acc, p.2 < h.objs.size) → (∀ x y c, (x, c) ∈ acc → (y, c) ∈ acc → x = y) →
    (x, c) ∈ cellsFrom h.objs.size names acc → (y, c) ∈ cellsFrom h.objs.size names acc → x = y
  | [], _, _, _, _, _, _, hi, h1, h2 => hi _ _ _ h1 h2
  | (n, k) :: r, h, acc, x, y, c, hl, hi, h1, h2 => by
    unfold cellsFrom at h1 h2
    split at h1
    · rename_i hk
      rw [if_pos hk] at h2
      rw [← Heap.size_push h { cls := .type "cell", data := .cell none }] at h1 h2
      refine cells_inj (h := h.push _) (fun p hp => ?_) (fun x y c a b => ?_) h1 h2
      · rw [Heap.size_push]
        rcases List.mem_cons.mp hp with rfl | hp
        · exact Nat.lt_succ_self _
        · exact Nat.lt_succ_of_lt (hl p hp)
      · rcases List.mem_cons.mp a with e | a <;> rcases List.mem_cons.mp b with e' | b
        · cases e; cases e'; rfl
        · cases e; exact absurd (hl _ b) (Nat.lt_irrefl _)
        · cases e'; exact absurd (hl _ a) (Nat.lt_irrefl _)
        · exact hi _ _ _ a b
    · rename_i hk
      rw [if_neg hk] at h2
      exact cells_inj hl hi h1 h2

theorem newEnv_comp {M : Model} {A : Around} {E : Value → Shared → Prop} {s : Shared} {scope : Scope} {globals : Addr} {closure : List (Str × Addr)} {qual : Str} {func : Option Addr} {code : Value} {around : Env} {builtins : Addr} {Q : Env → Shared → Prop}
    (h : Q (newEnv scope s.heap.objs.size globals (cellsFrom (s.heap.objs.size + 1) scope.names closure) qual func code (some around) builtins)
      { s with heap := pushCells (s.heap.push { cls := .type "dict", data := .dict #[] }) scope.names }) :
    wpAny M A (newFunctionEnv scope globals closure [] qual func code (some around) builtins) Q E s := by
  simp only [newFunctionEnv, Option.isSome_some, if_true]
  refine wpAny_bind (wpAny_alloc ?_)
  refine wpAny_bind (wpAny_layCells _ (fun n k c => rfl) scope.names closure _ _ ?_)
  rw [show ({ s with heap := s.heap.push { cls := .type "dict", data := .dict #[] } } : Shared).heap.objs.size = s.heap.objs.size + 1 from Heap.size_push ..]
  rw [List.forIn_nil]
  exact wpAny_bind (wpAny_pure (wpAny_pure h))

/-- every name of the written scope, in the scope that runs -/
theorem lookup_relS {sc : Scope} : ∀ {names : List (Str × NameKind)} {x : Str} {k : NameKind},
    (names.map fun (n, k) => if (k == NameKind.free && sc.kind == .function && sc.names.lookup n == some .cell) then (n, NameKind.cell) else (n, k)).lookup x = some k →
    ∃ k', names.lookup x = some k' ∧ (k = k' ∨ (k' = .free ∧ k = .cell))
  | [], _, _, h => by simp at h
  | (n, k₀) :: r, x, k, h => by
    have ih := @lookup_relS sc r x k
    have h' : List.lookup x ((if (k₀ == NameKind.free && sc.kind == .function && sc.names.lookup n == some .cell) = true then (n, NameKind.cell) else (n, k₀)) :: (r.map _)) = some k := h
    cases hx : x == n with
    | true =>
      simp only [List.lookup_cons, hx]
      by_cases hc : (k₀ == NameKind.free && sc.kind == .function && sc.names.lookup n == some .cell) = true
      · rw [if_pos hc] at h'
        simp only [List.lookup_cons, hx] at h'
        cases h'
        simp only [Bool.and_eq_true, beq_iff_eq] at hc
        exact ⟨k₀, rfl, .inr ⟨hc.1.1, rfl⟩⟩
      · rw [if_neg hc] at h'
        simp only [List.lookup_cons, hx] at h'
        cases h'
        exact ⟨_, rfl, .inl rfl⟩
    | false =>
      simp only [List.lookup_cons, hx]
      by_cases hc : (k₀ == NameKind.free && sc.kind == .function && sc.names.lookup n == some .cell) = true
      · rw [if_pos hc] at h'
        simp only [List.lookup_cons, hx] at h'
        exact ih h'
      · rw [if_neg hc] at h'
        simp only [List.lookup_cons, hx] at h'
        exact ih h'
/-- the names of a comprehension's block: its own (with their places in N), or captured -/
structure BlkOk (N : List Str) (sc scope : Scope) (own : List (Str × Nat)) : Prop where
  kind : scope.kind = .function
  uniq : ∀ y ∈ scope.names, scope.names.lookup y.1 = some y.2
  ix : ∀ p ∈ own, N[p.2]? = some p.1
  free : ∀ y ∈ scope.names, y.2 = .free → sc.names.lookup y.1 = some .cell ∨ sc.names.lookup y.1 = some .free
  own : ∀ y ∈ scope.names, y.2 = .local ∨ y.2 = .cell → y.1 ∈ own.map (·.1) ∨ y.1 ∉ N
/-- the slots of the block's own names forgotten -/
def wipe (σ : St) : List Nat → St
  | [] => σ
  | v :: vs => (wipe σ vs).set v none
theorem wipe_length (σ : St) : ∀ vs : List Nat, (wipe σ vs).length = σ.length
  | [] => rfl
  | v :: vs => by unfold wipe; rw [List.length_set, wipe_length σ vs]
theorem wipe_some {σ : St} {i : Nat} {x : V} : ∀ {vs : List Nat}, (wipe σ vs)[i]? = some (some x) → σ[i]? = some (some x) ∧ i ∉ vs
  | [], h => ⟨h, by simp⟩
  | v :: vs, h => by
    unfold wipe at h
    by_cases hi : v = i
    · subst hi
      by_cases hv : v < (wipe σ vs).length
      · rw [List.getElem?_set_self hv] at h; cases h
      · rw [List.getElem?_eq_none (by simpa using hv)] at h; cases h
    · rw [List.getElem?_set_ne hi] at h
      obtain ⟨h1, h2⟩ := wipe_some h
      exact ⟨h1, by simp only [List.mem_cons, not_or]; exact ⟨fun e => hi e.symm, h2⟩⟩

/-- the context of a block that starts at s, its iterator's objects at fp -/
abbrev Cx.blk (X : Cx) (s : Shared) (H : Hp) (scope : Scope) (cenv : Env) (fp : List Addr) : Cx := { X with s_0 := s, H_0 := H, env := cenv, outer := X.stack, ex := fp, fn := fun x => scope.names.lookup x == some .cell, pn := [], xe := fun _ _ => False }
section
variable {X : Cx} {pins : List (Addr × Obj)} {σ : St} {H : Hp} {s : Shared}
theorem block_start {scope : Scope} {own : List (Str × Nat)} {fp : List Addr} (I : Inv X pins σ H s) (ok : BlkOk X.N X.env.scope scope own) (hN : X.N.Nodup) (hfp : ∀ b ∈ fp, FpOk X pins H b ∧ b < s.heap.objs.size) :
    Inv (X.blk s H scope (compEnvC scope (cellsFrom (s.heap.objs.size + 1) scope.names (cloFrom X.env.cells scope.names [])) s.heap.objs.size X.env) fp) [] (wipe σ (own.map (·.2))) H { s with heap := pushCells (s.heap.push { cls := .type "dict", data := .dict #[] }) scope.names } := by
  have hfree : ∀ y ∈ scope.names, y.2 = .free → ∃ c, X.env.cells.lookup y.1 = some c := fun y hy e => by
    rcases ok.free y hy e with k | k
    · exact I.ok.has _ (.inl k)
    · exact I.ok.has _ (.inr k)
  generalize hcenv : compEnvC scope (cellsFrom (s.heap.objs.size + 1) scope.names (cloFrom X.env.cells scope.names [])) s.heap.objs.size X.env = cenv
  have kp : ∀ b o, s.heap.get? b = some o → (pushCells (s.heap.push { cls := .type "dict", data := .dict #[] }) scope.names).get? b = some o := fun b o e => pushCells_keeps _ _ _ _ (Heap.get?_push_of_some _ e)
  have hL : cenv.locals = s.heap.objs.size := by rw [← hcenv]; rfl
  have hcl : cenv.cells = cellsFrom (s.heap.objs.size + 1) scope.names (cloFrom X.env.cells scope.names []) := by rw [← hcenv]; rfl
  have hsc : cenv.scope = relS scope X.env.scope := by rw [← hcenv]; rfl
  rw [← Heap.size_push s.heap { cls := .type "dict", data := .dict #[] }] at hcl
  have cm : ∀ {y c}, (y, c) ∈ cloFrom X.env.cells scope.names [] → X.env.cells.lookup y = some c ∧ c < s.heap.objs.size := fun {y c} hm => by
    rcases cloFrom_mem hm with hm | ⟨h1, rfl⟩
    · cases hm
    · obtain ⟨c, hc⟩ := hfree _ h1 rfl
      rw [hc]
      obtain ⟨w, z⟩ := I.cell _ _ hc
      exact ⟨rfl, z.lt⟩
  have mem : ∀ {y c}, cenv.cells.lookup y = some c → (X.env.cells.lookup y = some c ∧ c < s.heap.objs.size) ∨ (s.heap.objs.size + 1 ≤ c ∧ CellAt (pushCells (s.heap.push { cls := .type "dict", data := .dict #[] }) scope.names) c none) := fun {y c} e => by
    rw [hcl] at e
    rcases cells_mem (PySem.mem_of_lookup e) with hm | ⟨_, h2, h3⟩
    · exact .inl (cm hm)
    · rw [Heap.size_push] at h2; exact .inr ⟨h2, h3⟩
  have look : ∀ {y}, scope.names.lookup y = some .free → ∃ c, cenv.cells.lookup y = some c ∧ X.env.cells.lookup y = some c := fun {y} hl => by
    have hy : (y, NameKind.free) ∈ scope.names := PySem.mem_of_lookup hl
    obtain ⟨c', e'⟩ := mem_lookup (cells_acc (names := scope.names) (n := (s.heap.push { cls := .type "dict", data := .dict #[] }).objs.size) (cloFrom_has (cells := X.env.cells) (acc := []) hy))
    rw [← hcl] at e'
    refine ⟨c', e', ?_⟩
    rw [hcl] at e'
    rcases cells_mem (PySem.mem_of_lookup e') with hm | ⟨h1, _, _⟩
    · exact (cm hm).1
    · have := ok.uniq _ h1
      rw [hl] at this; cases this
  have okB : (X.blk s H scope cenv fp).Ok := by
    refine ⟨I.ok.mod, by show cenv.scope.kind = _; rw [hsc]; exact ok.kind, by show cenv.globals = _; rw [← hcenv]; exact I.ok.glob, by show cenv.builtins = _; rw [← hcenv]; exact I.ok.blt, by show s.heap.objs.size ≤ cenv.locals; rw [hL]; exact Nat.le_refl _,
      fun y z c e1 e2 => ?_, fun y hy => ?_, fun y c z e => ?_, I.ok.hd, I.ok.frames, .inl rfl, fun b hb => ⟨?_, fun y c e z => ?_⟩, I.bs, Nat.le_trans I.ok.bsz I.sz, fun b o e hb => ?_, fun b hb z => ?_, I.stack, I.stkFree⟩
    · have e1 : cenv.cells.lookup y = some c := e1
      have e2 : cenv.cells.lookup z = some c := e2
      rw [hcl] at e1 e2
      refine cells_inj (fun p hp => ?_) (fun y z c a b => I.ok.inj y z c (cm a).1 (cm b).1) (PySem.mem_of_lookup e1) (PySem.mem_of_lookup e2)
      rw [Heap.size_push]
      exact Nat.lt_succ_of_lt (cm (y := p.1) (c := p.2) hp).2
    · show ∃ c, cenv.cells.lookup y = some c
      have key : ∀ k, cenv.kindOf y = some k → (k = .cell ∨ k = .free) → ∃ c, cenv.cells.lookup y = some c := fun k hk hk' => by
        unfold Env.kindOf at hk
        rw [hsc] at hk
        obtain ⟨k', e, r⟩ := lookup_relS hk
        have : k' = .cell ∨ k' = .free := by
          rcases r with rfl | ⟨rfl, _⟩
          · exact hk'
          · exact .inr rfl
        rcases this with rfl | rfl
        · obtain ⟨c, hm⟩ := cells_has (n := (s.heap.push { cls := .type "dict", data := .dict #[] }).objs.size) (acc := cloFrom X.env.cells scope.names []) (PySem.mem_of_lookup e)
          obtain ⟨c', e'⟩ := mem_lookup hm
          exact ⟨c', by rw [hcl]; exact e'⟩
        · obtain ⟨c, h1, _⟩ := look e
          exact ⟨c, h1⟩
      rcases hy with hy | hy
      · exact key _ hy (.inl rfl)
      · exact key _ hy (.inr rfl)
    · have z : (scope.names.lookup y == some NameKind.cell) = true := z
      have z : scope.names.lookup y = some .cell := by simpa using z
      have e : cenv.cells.lookup y = some c := e
      rw [hcl] at e
      rcases cells_mem (PySem.mem_of_lookup e) with hm | ⟨_, h2, _⟩
      · rcases cloFrom_mem hm with hm | ⟨h1, _⟩
        · cases hm
        · have q := ok.uniq _ h1
          rw [z] at q; cases q
      · rw [Heap.size_push] at h2
        exact Nat.le_of_succ_le h2
    · show b ≠ cenv.locals
      rw [hL]; exact Nat.ne_of_lt (hfp b hb).2
    · have e : cenv.cells.lookup y = some c := e
      rcases mem e with ⟨h1, _⟩ | ⟨h1, _⟩
      · exact (hfp b hb).1.2.2.2.2.1 y c h1 z
      · have h2 : s.heap.objs.size + 1 ≤ b := by rw [← z]; exact h1
        exact absurd (Nat.lt_of_lt_of_le (hfp b hb).2 (Nat.le_of_succ_le h2)) (Nat.lt_irrefl _)
    · rcases (hfp b hb).1.2.2.2.1 with z | z
      · exact I.ok.noex b o e z
      · exact absurd (Nat.lt_of_lt_of_le (Heap.lt_size e) (Nat.le_trans I.ok.bsz z)) (Nat.lt_irrefl _)
    · rcases List.mem_cons.mp (I.stkSub b z) with z | z
      · exact (hfp b hb).1.2.1 z
      · exact (hfp b hb).1.2.2.1 z
  refine ⟨okB, rfl, I.bare, Un.kept kp, ⟨fun _ => none, ?_, fun i y av e1 e2 e3 => ?_⟩, fun y c e => ?_, ?_, fun y c e => ?_, fun p hp => ?_, I.hok.kept kp, by rw [wipe_length]; exact I.len⟩
  · show Heap.Ns _ cenv.locals _
    rw [hL]
    exact Heap.Ns.keeps (Heap.Ns.new ..) fun b o e => pushCells_keeps _ _ _ _ e
  · obtain ⟨e2, hne⟩ := wipe_some e2
    have hfr : scope.names.lookup y = some .free ∧ (cenv.kindOf y = some .cell ∨ cenv.kindOf y = some .free) := by
      have key : ∀ k, cenv.scope.names.lookup y = some k → k = .local ∨ k = .cell ∨ k = .free → scope.names.lookup y = some .free ∧ (cenv.kindOf y = some .cell ∨ cenv.kindOf y = some .free) := fun k hk hk' => by
        have hk0 := hk
        rw [hsc] at hk
        obtain ⟨k', e, r⟩ := lookup_relS hk
        have no : ¬ (k' = .local ∨ k' = .cell) := fun hh => by
          rcases ok.own _ (PySem.mem_of_lookup e) hh with e' | e'
          · obtain ⟨p, hp, hpy⟩ := List.mem_map.mp e'
            have e3 := ok.ix p hp
            have : p.1 = y := hpy
            rw [this] at e3
            exact hne (List.mem_map.mpr ⟨p, hp, nodup_ix hN e3 e1⟩)
          · exact e' (List.mem_of_getElem? e1)
        rcases r with rfl | ⟨rfl, rfl⟩
        · rcases hk' with rfl | rfl | rfl
          · exact absurd (.inl rfl) no
          · exact absurd (.inr rfl) no
          · exact ⟨e, .inr hk0⟩
        · exact ⟨e, .inl hk0⟩
      have e3 : Vis cenv.scope y := e3
      rcases e3 with e3 | e3 | e3
      · exact key _ e3 (.inl rfl)
      · exact key _ e3 (.inr (.inl rfl))
      · exact key _ e3 (.inr (.inr rfl))
    obtain ⟨m, hn, hl⟩ := I.loc
    have hvis : Vis X.env.scope y := (ok.free _ (PySem.mem_of_lookup hfr.1) rfl).elim (fun k => .inr (.inl k)) (fun k => .inr (.inr k))
    obtain ⟨w, r, q⟩ := hl i y av e1 e2 hvis
    refine ⟨w, r, .inr ⟨hfr.2, ?_⟩⟩
    obtain ⟨c, h1, h2⟩ := look hfr.1
    rcases q with ⟨k, _⟩ | ⟨_, c', e', z⟩
    · have k : X.env.scope.names.lookup y = some .local := k
      rcases ok.free _ (PySem.mem_of_lookup hfr.1) rfl with k' | k' <;> rw [show X.env.scope.names.lookup y = _ from k'] at k <;> cases k
    · rw [h2] at e'; cases e'
      exact ⟨c, h1, z.keeps kp⟩
  · have e : cenv.cells.lookup y = some c := e
    rcases mem e with ⟨h1, _⟩ | ⟨_, z⟩
    · obtain ⟨w, z⟩ := I.cell y c h1
      exact ⟨w, z.keeps kp⟩
    · exact ⟨_, z⟩
  · show H cenv.locals = none
    rw [hL]; exact I.hok.fresh (Nat.le_refl _)
  · have e : cenv.cells.lookup y = some c := e
    rcases mem e with ⟨h1, _⟩ | ⟨h1, _⟩
    · exact I.freeC y c h1
    · exact I.hok.fresh (Nat.le_of_succ_le h1)
  · exact absurd (show p ∈ ([] : List (Addr × Obj)) ++ [] from hp) (by simp)

/-- an item appended to a tracked list -/
theorem app_ok {E : Value → Shared → Prop} {D : Addr} {xs : List V} {y : V} {v : Value} {Q : Value → Shared → Prop} (I : Inv X pins σ H s) (hD : H D = some (.lst xs)) (hz : xs.length < sizeLine) (r : RelV y v)
    (h : ∀ s', Inv X pins σ (upd H D (.lst (xs ++ [y]))) s' → Q .none s') : wpAny (model X.prog X.w) X.A (call (.builtin "list.append") [.ref D, v]) Q E s := by
  obtain ⟨hz', its, n, ri, e⟩ := I.hok D _ hD
  have hl := ri.length
  refine append_at (hsz := by rw [List.size_toArray]; omega) e fun h' sb ho' => ?_
  refine h { s with heap := h' } (I.write (t' := s.toks) (by rw [hD]; trivial) (.inl rfl) (fun b u hb q => (sb.2 b hb).trans q) ⟨_, ho'⟩ ⟨by rw [List.length_append]; exact hz, its ++ [v], n + 1, ri.append (.cons r .nil), ?_⟩)
  rw [ho']
  simp

/-- a clause's tests -/
def PTs (X : Cx) (ifs : List Expr) (t : TT) : Prop :=
  ∀ (pins : List (Addr × Obj)) (s : Shared) (σ : St) (H : Hp) (Q : Bool → Hp → Prop), Inv X pins σ H s → t σ H Q →
    wpAny (model X.prog X.w) X.A (forIn ifs true fun c r => if r = true then do let ok ← isTrue c X.env (eval c X.env); pure (ForInStep.yield ok) else pure (ForInStep.yield r)) (TP X pins σ Q) X.xe s
def tYes : TT := fun _ H Q => Q true H
theorem pts_nil : PTs X [] tYes := fun _ _ _ H _ I h => wpAny_tests_nil ⟨H, I, h⟩
end

theorem thnF {α : Type} {t : Sem α} {Q Q' : α → Shared → Prop} {M : Model} {A : Around} {E : Value → Shared → Prop} {s : Shared} (h : wpAny M A t Q (fun _ _ => False) s) (hQ : ∀ a s, Q a s → Q' a s) : wpAny M A t Q' E s := wpAny_mono h hQ fun _ _ z => False.elim z

/-- the loop of a list comprehension's block, the target of any form (codeAny_compLoop_tests asks a target that no tuple goes to; statement and proof follow it, PyProof/CompMap.lean:41-61, with the step letOwnedTupleGo kept) -/
theorem compLoop_any {prog : Program} {w : World} {A : Around} {R : Result → Shared → Prop} {s : Shared} {elt target iter : Expr} {ifs : List Expr} {scope : Scope} {pos : Pos} {it acc : Value} {env : Env} (I : Nat → Shared → Prop)
    (turn : ∀ n s, I n s → wpAny (model prog w) A (pyNext it) (fun r s₁ => match r with
      | none => R (.ok .next) s₁
      | some v => wpAny (model prog w) A (letOwnedTupleGo target it v) (fun _ s₁' => wpAny (model prog w) A (assign target env v) (fun _ s₂ =>
          wpAny (model prog w) A (forIn ifs true fun c r => if r = true then do let ok ← isTrue c env (eval c env); pure (ForInStep.yield ok) else pure (ForInStep.yield r)) (fun ok s₃ =>
            if ok = true then wpAny (model prog w) A (eval elt env) (fun x s₄ =>
              wpAny (model prog w) A (call (.builtin "list.append") [acc, x]) (fun _ s₅ => ∃ m, m < n ∧ I m s₅) (notedBy (model prog w) A env fun e s' => R (.error e) s') s₄) (notedBy (model prog w) A env fun e s' => R (.error e) s') s₃
            else ∃ m, m < n ∧ I m s₃) (notedBy (model prog w) A env fun e s' => R (.error e) s') s₂) (notedBy (model prog w) A env fun e s' => R (.error e) s') s₁') (notedBy (model prog w) A env fun e s' => R (.error e) s') s₁) (notedBy (model prog w) A env fun e s' => R (.error e) s') s)
    (n : Nat) (h : I n s) :
    codeAny (model prog w) A (.compLoop (.ListComp elt [⟨target, iter, ifs, 0⟩] scope pos) 0 it acc env) R s := by
  refine codeAny_loop rfl I (fun n s hI => ?_) n h
  show wpAny _ A ((compTurn (.ListComp elt [⟨target, iter, ifs, 0⟩] scope pos) 0 it acc env).onRaise (fun x => do noteFrame x env; theTreesLotGoes x)) _ _ s
  refine wpAny_noted ?_
  rw [compTurn_list]
  refine wpAny_bind (wpAny_standAt (wpAny_bind (wpAny_mono (turn n s hI) (fun r s₁ h₁ => ?_) fun _ _ h' => h')))
  cases r with
  | none => exact wpAny_pure h₁
  | some v =>
    refine wpAny_bind (wpAny_mono h₁ (fun _ s₁' h₁' => ?_) fun _ _ h' => h')
    refine wpAny_bind (wpAny_mono h₁' (fun _ s₂ h₂ => wpAny_bind (wpAny_mono h₂ (fun ok s₃ h₃ => ?_) fun _ _ h' => h')) fun _ _ h' => h')
    cases ok with
    | false => exact wpAny_pure ⟨rfl, h₃⟩
    | true =>
      exact wpAny_bind (wpAny_bind (wpAny_mono h₃ (fun x s₄ h₄ => wpAny_bind (wpAny_mono h₄ (fun _ s₅ h₅ => wpAny_pure (wpAny_pure ⟨rfl, h₅⟩)) fun _ _ h' => h')) fun _ _ h' => h'))

section
variable {X : Cx}
/-- [elt for target in iter if ..]: D the new list; W by the turn and a measure, Nx what a turn is to reach -/
def tLc (wi : TI) (g : TG) (tt : TT) (te : TE) (vs : List Nat) : TE := fun σ H Q => wi σ H fun J H1 => ∀ D, H1 D = none → ∃ W : Nat → Nat → Hp → Prop, (∃ m, W 0 m (upd H1 D (.lst []))) ∧ ∀ i m H, W i m H →
  (J.stop i H ∧ Q (.ref D) H) ∨ (J.go i H ∧ ∃ Nx : Hp → Prop, (∀ H', Nx H' → ∃ m', m' < m ∧ W (i + 1) m' H') ∧ ∀ x H', J.yld i H x H' → g x (wipe σ vs) H' fun σ2 H2 => wipe σ2 vs = wipe σ vs ∧ tt σ2 H2 fun b H3 =>
    if b = true then te σ2 H3 fun y H4 => ∃ acc, H4 D = some (.lst acc) ∧ acc.length < sizeLine ∧ Nx (upd H4 D (.lst (acc ++ [y]))) else Nx H3)
theorem lc_core {pins : List (Addr × Obj)} {s : Shared} {σ : St} {H : Hp} {Q : VK} {elt tg iter : Expr} {ifs : List Expr} {scope : Scope} {own : List (Str × Nat)} {pos pos' : Pos} {wi : TI} {g : TG} {tt : TT} {te : TE} {use : Option (Value → Sem Unit)} {Qf : Value → Shared → Prop}
    (hc : X.calm = true) (hN : X.N.Nodup) (I : Inv X pins σ H s) (hi : PI X tg iter wi) (ok : BlkOk X.N X.env.scope scope own)
    (hg : ∀ (s : Shared) (H : Hp) (C : Addr) (cl : List (Str × Addr)) (fp : List Addr), PG (X.blk s H scope (compEnvC scope cl C X.env) fp) tg g) (ht : ∀ (s : Shared) (H : Hp) (C : Addr) (cl : List (Str × Addr)) (fp : List Addr), PTs (X.blk s H scope (compEnvC scope cl C X.env) fp) ifs tt)
    (he : ∀ (s : Shared) (H : Hp) (C : Addr) (cl : List (Str × Addr)) (fp : List Addr), PE (X.blk s H scope (compEnvC scope cl C X.env) fp) elt te) (hs : ∀ x, foldedSetIterable iter X.env x = pure x)
    (h : tLc wi g tt te (own.map (·.2)) σ H Q)
    (hRR : ∀ D C s' m H', Inv X pins σ H' s' → Q (.ref D) H' → s'.heap.Ns C m → FpOk X pins H' C → compPost (model X.prog X.w) X.A X.xe use Qf (.ref D) C (.ok .next) s') :
    wpAny (model X.prog X.w) X.A (comprehension (.ListComp elt [⟨tg, iter, ifs, 0⟩] scope pos) scope X.env pos' (newList []) false (eval iter X.env) use) Qf X.xe s := by
  have hfree : ∀ y ∈ scope.names, y.2 = .free → ∃ c, X.env.cells.lookup y.1 = some c := fun y hy e => by
    rcases ok.free y hy e with k | k
    · exact I.ok.has _ (.inl k)
    · exact I.ok.has _ (.inr k)
  refine wpAny_comprehension_free (use := use) rfl hs (closure_ok hfree) ok.kind (fun y hy e => by rw [ok.uniq y hy, e])
    (thn (hi pins s σ H _ I h) fun xv s1 hx => thn hx fun itv s2 h2 => ?_)
  obtain ⟨it, fp, tn, J, H2, e, I2, T, st2, f2, q⟩ := h2
  subst e
  refine wpAny_newObj_type (newEnv_comp ?_) (by show 0 ≤ sizeLine; decide)
  generalize hD : s2.heap.objs.size = D
  have hDn : H2 D = none := I2.hok.fresh (Nat.le_of_eq hD)
  obtain ⟨W, ⟨m0, w0⟩, turn⟩ := q D hDn
  -- the new list
  generalize hs3 : ({ s2 with heap := s2.heap.push { cls := .type "list", data := .seq ([] : List Value).toArray } } : Shared) = s3
  have I3 : Inv X pins σ (upd H2 D (.lst [])) s3 := by
    rw [← hs3]
    refine I2.laid (t' := s2.toks) (fun b o e => Heap.get?_push_of_some _ e) (Nat.le_of_eq hD) ⟨Nat.zero_le _, [], 0, .nil, ?_⟩
    rw [← hD]
    exact Heap.get?_push_size _ rfl
  have h3 : s3.heap = s2.heap.push { cls := .type "list", data := .seq ([] : List Value).toArray } := by rw [← hs3]
  have sz : ∀ b ∈ fp, b < s2.heap.objs.size := fun b hb => by
    obtain ⟨o, e, _⟩ := T.obj _ _ st2 b hb
    exact Heap.lt_size e
  have f3 : ∀ b ∈ fp, FpOk X pins (upd H2 D (.lst [])) b ∧ b < s3.heap.objs.size := fun b hb => by
    have hlt := sz b hb
    refine ⟨⟨?_, (f2 b hb).2⟩, by rw [h3, Heap.size_push]; exact Nat.lt_succ_of_lt hlt⟩
    rw [upd_ne (by rw [← hD]; exact Nat.ne_of_lt hlt)]
    exact (f2 b hb).1
  have st3 : tn 0 s3.heap := T.keep _ _ _ st2 fun b _ o e => by rw [h3]; exact Heap.get?_push_of_some _ e
  have I4 := block_start I3 ok hN f3
  have pg := hg s3 (upd H2 D (.lst [])) s3.heap.objs.size (cellsFrom (s3.heap.objs.size + 1) scope.names (cloFrom X.env.cells scope.names [])) fp
  have pt := ht s3 (upd H2 D (.lst [])) s3.heap.objs.size (cellsFrom (s3.heap.objs.size + 1) scope.names (cloFrom X.env.cells scope.names [])) fp
  have pe := he s3 (upd H2 D (.lst [])) s3.heap.objs.size (cellsFrom (s3.heap.objs.size + 1) scope.names (cloFrom X.env.cells scope.names [])) fp
  show codeAny _ _ (.compStart (.ListComp elt [⟨tg, iter, ifs, 0⟩] scope pos) 0 (.ref it) (.ref D) (compEnvC scope (cellsFrom (s3.heap.objs.size + 1) scope.names (cloFrom X.env.cells scope.names [])) s3.heap.objs.size X.env)) (compPost (model X.prog X.w) X.A X.xe use Qf (.ref D) s3.heap.objs.size) { s3 with heap := pushCells (s3.heap.push { cls := .type "dict", data := .dict #[] }) scope.names }
  have nfp : ∀ b ∈ fp, (upd H2 D (.lst [])) b = none := fun b hb => (f3 b hb).1.1
  generalize hce : compEnvC scope (cellsFrom (s3.heap.objs.size + 1) scope.names (cloFrom X.env.cells scope.names [])) s3.heap.objs.size X.env = ce at I4 pg pt pe ⊢
  have cL : ce.locals = s3.heap.objs.size := by subst hce; rfl
  generalize hH3 : upd H2 D (.lst []) = H3 at I3 I4 pg pt pe w0 nfp f3
  generalize hs4 : ({ s3 with heap := pushCells (s3.heap.push { cls := .type "dict", data := .dict #[] }) scope.names } : Shared) = s4 at I4 ⊢
  have st4 : tn 0 s4.heap := T.keep _ _ _ st3 fun b _ o e => by rw [← hs4]; exact pushCells_keeps _ _ _ _ (Heap.get?_push_of_some _ e)
  have stat : ∀ {σ' : St} {H' : Hp} {s' : Shared}, Inv (X.blk s3 H3 scope ce fp) [] σ' H' s' → (∀ b ∈ fp, H' b = none) → ∀ b ∈ fp, FpOk (X.blk s3 H3 scope ce fp) [] H' b := fun {σ' H' s'} I' hn b hb =>
    ⟨hn b hb, (I'.ok.exf b hb).1, I'.ok.exfs b hb, .inl hb, fun x c e => (I'.ok.exf b hb).2 x c e, fun p hp => absurd (show p ∈ ([] : List (Addr × Obj)) ++ [] from hp) (by simp)⟩
  have loop : codeAny (model X.prog X.w) X.A (.compLoop (.ListComp elt [⟨tg, iter, ifs, 0⟩] scope pos) 0 (.ref it) (.ref D) ce) (compPost (model X.prog X.w) X.A X.xe use Qf (.ref D) s3.heap.objs.size) s4 := by
    refine compLoop_any (fun n s' => ∃ i H', Inv (X.blk s3 H3 scope ce fp) [] (wipe σ (own.map (·.2))) H' s' ∧ tn i s'.heap ∧ (∀ b ∈ fp, H' b = none) ∧ W i n H') ?_ m0 ⟨0, H3, I4, st4, nfp, w0⟩
    rintro n s5 ⟨i, H5, I5, st5, n5, w5⟩
    rcases turn i n H5 w5 with ⟨stop, qq⟩ | ⟨go, Nx, hNx, step⟩
    · have td := T.done (X.blk s3 H3 scope ce fp) rfl rfl rfl hc i [] s5 _ H5 (fun _ _ => False) I5 (stat I5 n5) st5 stop
      refine thnF td fun r s6 ⟨hr, I6⟩ => ?_
      subst hr
      -- back in the def's context
      have I7 : Inv X pins σ H5 s6 := I3.call' (ch := fp) I6.os I6.base I6.hok I6.bare fun b hb => ⟨(f3 b hb).1.2.2.2.1, (f3 b hb).1.2.1, (f3 b hb).1.2.2.2.2.1, (f3 b hb).1.2.2.2.2.2⟩
      have nC : H5 s3.heap.objs.size = none := by
        have z : H5 ce.locals = none := I6.free
        rw [cL] at z
        exact z
      obtain ⟨m, hn, _⟩ := I6.loc
      have hn : s6.heap.Ns ce.locals m := hn
      rw [cL] at hn
      exact hRR D s3.heap.objs.size s6 m H5 I7 qq hn (I3.fpOk (Nat.le_refl _) nC)
    · have ti := T.item (X.blk s3 H3 scope ce fp) rfl rfl rfl hc i [] s5 _ H5 (fun _ _ => False) I5 (stat I5 n5) st5 go
      refine thnF ti fun r s6 ⟨u, hr, h6⟩ => ?_
      subst hr
      refine thnF h6 fun _ s7 ⟨x, H7, I7, r7, y7, st7, n7⟩ => ?_
      have I7' := I7.pinned (stat I7 n7) (T.obj _ _ st7)
      refine thnF (pg _ s7 _ H7 x u _ I7' r7 (step x H7 y7)) fun _ s8 ⟨σ8, H8, I8, hw8, q8⟩ => ?_
      refine thnF (pt _ s8 σ8 H8 _ I8 q8) fun b s9 ⟨H9, I9, q9⟩ => ?_
      -- the turn's end
      have fin : ∀ {s' : Shared} {H' : Hp}, Inv (X.blk s3 H3 scope ce fp) ([] ++ pinsAt fp s7.heap) σ8 H' s' → Nx H' → ∃ m, m < n ∧ ∃ i H', Inv (X.blk s3 H3 scope ce fp) [] (wipe σ (own.map (·.2))) H' s' ∧ tn i s'.heap ∧ (∀ b ∈ fp, H' b = none) ∧ W i m H' := fun {s' H'} I' nx => by
        obtain ⟨m', hm, w'⟩ := hNx H' nx
        have pin' : ∀ b ∈ fp, ∀ o, s7.heap.get? b = some o → s'.heap.get? b = some o ∧ H' b = none := fun b hb o e =>
          let z := I'.pin (b, o) (List.mem_append_right _ (List.mem_append_right _ (mem_pinsAt hb e)))
          ⟨z.1, z.2.1⟩
        have hl : (wipe σ (own.map (·.2))).length = σ8.length := by rw [← hw8, wipe_length]
        refine ⟨m', hm, i + 1, H', (I'.unpinned (pins := [])).weak hl (fun j v e => ?_), T.keep _ _ _ st7 fun b hb o e => (pin' b hb o e).1, fun b hb => ?_, w'⟩
        · rw [← hw8] at e
          exact (wipe_some e).1
        · obtain ⟨o, e, _⟩ := T.obj _ _ st7 b hb
          exact (pin' b hb o e).2
      cases b with
      | false =>
        simp only [Bool.false_eq_true, if_false] at q9 ⊢
        exact fin I9 q9
      | true =>
        simp only [if_true] at q9 ⊢
        refine thnF (pe _ s9 σ8 H9 _ I9 q9) fun z s10 ⟨yv, H10, I10, r10, acc, hD10, hz10, nx⟩ => ?_
        exact app_ok (X := X.blk s3 H3 scope ce fp) I10 hD10 hz10 r10 fun s11 I11 => fin I11 nx
  exact codeAny_compStart_list loop (T.self X.A 0 _ _ _ st4 loop)
/-- as a value -/
theorem pe_lc {elt tg iter : Expr} {ifs : List Expr} {scope : Scope} {own : List (Str × Nat)} {pos : Pos} {wi : TI} {g : TG} {tt : TT} {te : TE} (hc : X.calm = true) (hN : X.N.Nodup) (hi : PI X tg iter wi) (ok : BlkOk X.N X.env.scope scope own)
    (hg : ∀ (s : Shared) (H : Hp) (C : Addr) (cl : List (Str × Addr)) (fp : List Addr), PG (X.blk s H scope (compEnvC scope cl C X.env) fp) tg g) (ht : ∀ (s : Shared) (H : Hp) (C : Addr) (cl : List (Str × Addr)) (fp : List Addr), PTs (X.blk s H scope (compEnvC scope cl C X.env) fp) ifs tt)
    (he : ∀ (s : Shared) (H : Hp) (C : Addr) (cl : List (Str × Addr)) (fp : List Addr), PE (X.blk s H scope (compEnvC scope cl C X.env) fp) elt te) (hs : ∀ x, foldedSetIterable iter X.env x = pure x := by intro _; rfl) :
    PE X (.ListComp elt [⟨tg, iter, ifs, 0⟩] scope pos) (tLc wi g tt te (own.map (·.2))) := by
  intro pins s σ H Q I h
  rw [eval_ListComp]
  refine lc_core hc hN I hi ok hg ht he hs h fun D C s' m H' I' q hn f => ⟨m, hn, fun h'' sb => ?_⟩
  obtain ⟨f0, f1, f2, f3, f4, f5⟩ := f
  exact ⟨.ref D, H', I'.turned (t' := s'.toks) (fun b o hb e => (sb.2 b hb).trans e) f0 f1 f3 f4 f5, rfl, q⟩
end

/-! ### the forms one uses -/
/-- over a range: Pv by the turn and the heap (the new list at D within) -/
theorem lc_range {lo : Int} {n : Nat} {g : TG} {tt : TT} {te : TE} {vs : List Nat} {σ : St} {H1 : Hp} {D : Addr} {Qd : Hp → Prop} (Pv : Nat → Hp → Prop) (h0 : Pv 0 (upd H1 D (.lst [])))
    (hs : ∀ i H, i < n → Pv i H → g (.int (lo + i)) (wipe σ vs) H fun σ2 H2 => wipe σ2 vs = wipe σ vs ∧ tt σ2 H2 fun b H3 =>
      if b = true then te σ2 H3 fun y H4 => ∃ acc, H4 D = some (.lst acc) ∧ acc.length < sizeLine ∧ Pv (i + 1) (upd H4 D (.lst (acc ++ [y]))) else Pv (i + 1) H3) (hd : ∀ H, Pv n H → Qd H) :
    ∃ W : Nat → Nat → Hp → Prop, (∃ m, W 0 m (upd H1 D (.lst []))) ∧ ∀ i m H, W i m H →
      ((Itr lo n).stop i H ∧ Qd H) ∨ ((Itr lo n).go i H ∧ ∃ Nx : Hp → Prop, (∀ H', Nx H' → ∃ m', m' < m ∧ W (i + 1) m' H') ∧ ∀ x H', (Itr lo n).yld i H x H' → g x (wipe σ vs) H' fun σ2 H2 => wipe σ2 vs = wipe σ vs ∧ tt σ2 H2 fun b H3 =>
        if b = true then te σ2 H3 fun y H4 => ∃ acc, H4 D = some (.lst acc) ∧ acc.length < sizeLine ∧ Nx (upd H4 D (.lst (acc ++ [y]))) else Nx H3) := by
  refine ⟨fun i m H => m = n - i ∧ i ≤ n ∧ Pv i H, ⟨n, by simp, Nat.zero_le _, h0⟩, ?_⟩
  rintro i m H ⟨rfl, hi, p⟩
  by_cases hlt : i < n
  · refine .inr ⟨hlt, Pv (i + 1), fun H' p' => ⟨n - (i + 1), by omega, rfl, hlt, p'⟩, fun x H' y => ?_⟩
    obtain ⟨e, y⟩ := y
    subst e y
    exact hs i _ hlt p
  · have e : i = n := by omega
    subst e
    exact .inl ⟨Nat.le_refl _, hd H p⟩
/-- over a list that the block leaves as it is -/
theorem lc_list {K : PySem.W.Frag} {a : Addr} {xs : List V} {g : TG} {tt : TT} {te : TE} {vs : List Nat} {σ : St} {H1 : Hp} {D : Addr} {Qd : Hp → Prop} (Pv : Nat → Hp → Prop) (h0 : Pv 0 (upd H1 D (.lst []))) (hl : ∀ i H, i ≤ xs.length → Pv i H → SqL K H a xs)
    (hs : ∀ i x H, xs[i]? = some x → Pv i H → g x (wipe σ vs) H fun σ2 H2 => wipe σ2 vs = wipe σ vs ∧ tt σ2 H2 fun b H3 =>
      if b = true then te σ2 H3 fun y H4 => ∃ acc, H4 D = some (.lst acc) ∧ acc.length < sizeLine ∧ Pv (i + 1) (upd H4 D (.lst (acc ++ [y]))) else Pv (i + 1) H3) (hd : ∀ H, Pv xs.length H → Qd H) :
    ∃ W : Nat → Nat → Hp → Prop, (∃ m, W 0 m (upd H1 D (.lst []))) ∧ ∀ i m H, W i m H →
      ((Itl K a).stop i H ∧ Qd H) ∨ ((Itl K a).go i H ∧ ∃ Nx : Hp → Prop, (∀ H', Nx H' → ∃ m', m' < m ∧ W (i + 1) m' H') ∧ ∀ x H', (Itl K a).yld i H x H' → g x (wipe σ vs) H' fun σ2 H2 => wipe σ2 vs = wipe σ vs ∧ tt σ2 H2 fun b H3 =>
        if b = true then te σ2 H3 fun y H4 => ∃ acc, H4 D = some (.lst acc) ∧ acc.length < sizeLine ∧ Nx (upd H4 D (.lst (acc ++ [y]))) else Nx H3) := by
  refine ⟨fun i m H => m = xs.length - i ∧ i ≤ xs.length ∧ Pv i H, ⟨xs.length, by simp, Nat.zero_le _, h0⟩, ?_⟩
  rintro i m H ⟨rfl, hi, p⟩
  have q := hl i H hi p
  by_cases hlt : i < xs.length
  · refine .inr ⟨⟨xs, xs[i], q, by simp [hlt]⟩, Pv (i + 1), fun H' p' => ⟨xs.length - (i + 1), by omega, rfl, hlt, p'⟩, fun x H' y => ?_⟩
    obtain ⟨e, y⟩ := y
    subst e
    exact hs i x _ (y xs q) p
  · have e : i = xs.length := by omega
    subst e
    exact .inl ⟨⟨xs, q, Nat.le_refl _⟩, hd H p⟩
def blkC (N : List Str) (sc scope : Scope) (own : List (Str × Nat)) : Bool :=
  (match scope.kind with | .function => true | _ => false) && (scope.names.all fun y => decide (scope.names.lookup y.1 = some y.2)) && (own.all fun p => decide (N[p.2]? = some p.1)) &&
    (scope.names.all fun y => match y.2 with
      | .free => (match sc.names.lookup y.1 with | some .cell => true | some .free => true | _ => false)
      | .local => decide (y.1 ∈ own.map (·.1)) || decide (y.1 ∉ N)
      | .cell => decide (y.1 ∈ own.map (·.1)) || decide (y.1 ∉ N)
      | _ => true)
theorem blkOk_by {N : List Str} {sc scope : Scope} {own : List (Str × Nat)} (h : blkC N sc scope own = true) : BlkOk N sc scope own := by
  unfold blkC at h
  simp only [Bool.and_eq_true, List.all_eq_true, decide_eq_true_eq] at h
  obtain ⟨⟨⟨h1, h2⟩, h3⟩, h4⟩ := h
  refine ⟨?_, h2, h3, fun y hy e => ?_, fun y hy e => ?_⟩
  · split at h1
    · assumption
    · cases h1
  · have q := h4 y hy
    simp only [e] at q
    split at q <;> first | exact .inl (by assumption) | exact .inr (by assumption) | cases q
  · have q := h4 y hy
    rcases e with e | e <;> (simp only [e, Bool.or_eq_true, decide_eq_true_eq] at q; exact q)
end L2

namespace L2
open PySem PySem.Spec PyProof.Rows

section
variable {prog : Program} {w : World} {A : Around} {R : Result → Shared → Prop} {s : Shared} {elt t0 i0 t1 i1 : Expr} {ifs0 ifs1 : List Expr} {scope : Scope} {pos : Pos} {it acc : Value} {env : Env}
end

section
variable {X : Cx}
end
end L2

namespace L2
open PySem PySem.Spec PyProof.Rows

/-! ### lists of pairs as tables -/
section
variable {κ : Type} [DecidableEq κ]
end


/-! ### a tracked dict, its keys ints and texts or tuples of these -/
section
variable {P : Program} {w : World} {H : Hp} {h : Heap} {a : Addr}
end

section
variable {X : Cx} {pins : List (Addr × Obj)} {σ : St} {H : Hp} {s : Shared} {a : Addr} {y v : V} {u r : Value} {o : Option V} {A : Around} {E : Value → Shared → Prop}

end

section
variable {X : Cx} {pins : List (Addr × Obj)} {σ : St} {H : Hp} {s : Shared} {a : Addr} {kvs : List (Key × V)} {k : Key} {u : Value} {A : Around} {E : Value → Shared → Prop}
end


/-! ### readings and rules -/
section
variable {X : Cx} {o i e value : Expr} {pos pos' tpos : Pos} {td ty tv : TE}
end


/-! ### displays -/
section
variable {X : Cx} {pos : Pos}
end

/-! ### methods -/
section
variable {X : Cx} {pins : List (Addr × Obj)} {σ : St} {H : Hp} {s : Shared} {a : Addr} {y d : V} {u r : Value} {o : Option V} {A : Around} {E : Value → Shared → Prop}
end

section
variable {X : Cx} {o e f : Expr} {apos cpos : Pos} {td ty tx : TE}
end

/-! ### dict(d): a copy -/
section
variable {X : Cx} {pins : List (Addr × Obj)} {σ : St} {H : Hp} {s : Shared} {a : Addr} {kvs : List (Key × V)} {A : Around} {E : Value → Shared → Prop}
end


section
variable {X : Cx} {pins : List (Addr × Obj)} {σ : St} {H : Hp} {s : Shared} {a : Addr} {y : V} {u : Value} {A : Around} {E : Value → Shared → Prop}
end
end L2

namespace L2
open PySem PySem.Spec PyProof.Rows

section
variable {prog : Program} {w : World} {A : Around} {E : Value → Shared → Prop}
end

section
variable {X : Cx}
end
end L2

namespace L2
open PySem PySem.Spec PyProof.Rows

section
variable {X : Cx} {pins : List (Addr × Obj)} {σ : St} {H : Hp} {s : Shared} {h' : Heap}
/-! ### locking a thing while a statement runs -/
end
section
variable {X : Cx}
/-! ### one iterator just laid -/
end

/-! ### range with a step -/
section
variable {X : Cx} {tg : Expr}
end
/-! ### reversed(list) -/
section
variable {X : Cx} {tg : Expr}
end

/-! ### a str -/
/-! ### a dict's keys: any dict's entries -/
section
variable {prog : Program} {w : World} {A : Around} {E : Value → Shared → Prop} {s : Shared}
end

/-! ### a locked dict -/
section
variable {X : Cx} {pins : List (Addr × Obj)} {σ : St} {H : Hp} {s : Shared} {d : Addr} {o : Obj}
end

section
variable {P : Program} {w : World} {K : PySem.W.Frag} {tg : Expr} {d : Addr} {o : Obj} {es : Array DictEntry} {ep : Nat}
end

/-! ### for k in d, d.keys(), d.values(), d.items() -/
section
variable {X : Cx} {tg e : Expr} {td : TE} {apos cpos : Pos}
end

/-! ### enumerate(list) -/
/-! ### zip(list, list) -/
end L2

section 
namespace Bits
open PySem PyProof.Rows

end Bits
end 

section 
namespace TL
open PySem PySem.Builtin PySem.Builtin.Str PySem.StrLaws

/-! ### the list functions -/
/-! ### the model's split and partition are these -/
/-! ### computing spl and par -/
theorem join_eq (y : Str) (parts : List Str) : Txt.join y parts = Str.join y parts := glued_eq_join y parts
/-! ### digits -/
/-! ### words: x.split() -/
end TL
end 

namespace L2
open PySem PySem.Spec PyProof.Rows

theorem strs_of_vals : ∀ {ys : List Str} {us : List Value}, Vals (ys.map V.str) us → StrsAre us ys
  | [], _, .nil => .nil
  | y :: ys, _, .cons r t => by
    obtain ⟨k, rfl⟩ := r
    exact .cons y k (strs_of_vals t)

section
variable {X : Cx} {pins : List (Addr × Obj)} {σ : St} {H : Hp} {s : Shared} {Q : VK}
end

section
variable {X : Cx}

/-- sep.join(a list | a tuple of texts) -/
theorem mt_join : MtR X "str.join" (fun x xs H Q => ∃ a p, ∃ ys : List Str, x = .str a ∧ xs = [.ref p] ∧ (SqL X.K H p (ys.map V.str) ∨ SqT X.K H p (ys.map V.str)) ∧
    (ys.map (·.length)).sum + ys.length * a.length ≤ 16777216 ∧ Q (.str (Txt.join a ys)) H) := by
  intro pins s σ H x xs v us Q I rx rs h
  obtain ⟨a, p, ys, rfl, rfl, hp, hz, h⟩ := h
  obtain ⟨t, rfl⟩ := rx
  cases rs with
  | cons r1 rs =>
    cases rs
    cases r1
    rcases hp with hp | hp
    · obtain ⟨its, r, ⟨o, n, ho, hc, _, hd⟩, _⟩ := I.list hp
      exact PyProof.Rows.join_list (items := its.toArray) ⟨o, ho, hc, n, hd⟩ (by rw [List.toList_toArray]; exact strs_of_vals r) hz fun t' k => ⟨.str _, H, I.tok k, ⟨t', rfl⟩, h⟩
    · obtain ⟨its, r, ht, _⟩ := I.tuple hp
      exact PyProof.Rows.join_tuple (items := its.toArray) ht (by rw [List.toList_toArray]; exact strs_of_vals r) hz fun t' k => ⟨.str _, H, I.tok k, ⟨t', rfl⟩, h⟩

/-! ### of a text alone -/
/-! ### of a text and a text -/
end

section
variable {X : Cx} {o e : Expr} {to te : TE}
def tM1 (r : V → List V → Hp → VK → Prop) (to te : TE) : TE := fun σ H Q => to σ H fun x H1 => (∃ a, x = .str a) ∧ te σ H1 fun y H2 => r x [y] H2 Q
theorem pe_m1 {id : String} {name : Str} {apos pos : Pos} {r : V → List V → Hp → VK → Prop} (slot : Slot "str" name id) (ty : typeOf (.builtin id) = pure (.type "method_descriptor")) (rule : MtR X id r) (ho : PE X o to) (he : PE X e te)
    (hs : starEach [e] X.env = [(false, eval e X.env)] := by rfl) (hbase : attributeBase o name X.env (eval o X.env) = eval o X.env := by rfl) (hline : (apos.endLine == pos.line) = true := by rfl) :
    PE X (.Call (.Attribute o name apos) [e] [] pos) (tM1 r to te) := by
  intro pins s σ H Q I h
  refine PySem.Call_method1 hbase hs hline (thn (ho pins s σ H _ I h) fun v s1 ⟨x, H1, I1, r1, q1⟩ => ?_)
  obtain ⟨⟨a, rfl⟩, q1⟩ := q1
  obtain ⟨t, rfl⟩ := _root_.id r1
  refine ⟨"str", _, F.plainAttrs_str, slot, ty, typeIs_str _ _ _, (fun _ e => nomatch e), Calls.callWith_builtin rfl (Calls.evalArgs_plain (Calls.spliced_cons ?_))⟩
  exact thn (he pins s1 σ H1 _ I1 q1) fun u s2 ⟨y, H2, I2, r2, q2⟩ => Calls.spliced_nil (rule pins s2 σ H2 _ [y] _ [u] Q I2 r1 (.cons r2 .nil) q2)

theorem pe_join {apos pos : Pos} (ho : PE X o to) (he : PE X e te) (hs : starEach [e] X.env = [(false, eval e X.env)] := by rfl) (hbase : attributeBase o "join" X.env (eval o X.env) = eval o X.env := by rfl) (hline : (apos.endLine == pos.line) = true := by rfl) :
    PE X (.Call (.Attribute o "join" apos) [e] [] pos) (tM1 (fun x xs H Q => ∃ a p, ∃ ys : List Str, x = .str a ∧ xs = [.ref p] ∧ (SqL X.K H p (ys.map V.str) ∨ SqT X.K H p (ys.map V.str)) ∧
      (ys.map (·.length)).sum + ys.length * a.length ≤ 16777216 ∧ Q (.str (Txt.join a ys)) H) to te) :=
  pe_m1 F.slot_str_join F.type_str_join mt_join ho he hs hbase hline
end
end L2

namespace L2
open PySem PySem.Spec PyProof.Rows

section
variable {X : Cx}
end

/-! ### slices of a text -/
end L2

namespace Att
open PySem PySem.W PySem.Calls PyProof.Rows

/-! ### the script -/
theorem ints_of_wellAll {P : Params} {h : Heap} : ∀ (ns : List Int) (vs : List Value), WellAll P h vs (ns.map WData.int) → IntsAre vs ns := by
  intro ns
  induction ns with
  | nil =>
    intro vs w
    rw [List.map_nil] at w
    cases w
    exact .nil
  | cons n ns ih =>
    intro vs w
    rw [List.map_cons] at w
    cases w with
    | cons a b =>
      cases a
      exact .cons _ _ (ih _ b)

theorem script_of {l : OpenLaw} {n : Nat} (hn : l.most = some n) {P : Params} {h : Heap} {args : List WData} {vals : List Value}
    (hpre : l.row.toRowW.claim.pre args = true) (hwl : WellAll P h vals args) :
    ∃ a vs ns, vals = [Value.ref a] ∧ args = [WData.list (ns.map WData.int)] ∧ h.get? a = some { cls := .type "list", data := .seq vs.toArray } ∧ IntsAre vs ns ∧ ns.length ≤ n := by
  have hsh : WShape.hasAll [] args [.list .int] = true := (pre_splitW hpre).1
  have hc : l.pre.holds [] { args := args } = true := (pre_splitW hpre).2
  obtain ⟨d, r, rfl, h1, h2⟩ := hasAllW_cons hsh
  obtain rfl := hasAllW_nil h2
  obtain ⟨xs, rfl, h3⟩ := hasW_list h1
  obtain ⟨ns, rfl⟩ := items_int h3
  have hlen : ns.length ≤ n := by
    unfold OpenLaw.pre at hc
    have h4 : (WTm.not (.lt (.lit (.int (n : Int))) (.len (.arg 0)))).holds [] { args := [.list (ns.map .int)] } = true := by
      have h4 := (holds_andW hc).1
      rw [hn] at h4
      exact h4
    have h5 := condW_of h4 (w_not (w_lt w_lit (w_len_list (w_arg rfl))))
    rw [List.length_map] at h5
    refine Nat.le_of_not_lt fun q => ?_
    have q' : (n : Int) < ((ns.length : Nat) : Int) := by omega
    first
      | (rw [decide_eq_true q'] at h5; exact absurd h5 (by decide))
      | (simp at h5; omega)
  cases hwl with
  | cons w1 w2 =>
    cases w2
    cases w1 with
    | list ho hall => exact ⟨_, _, ns, rfl, rfl, ho, ints_of_wellAll ns _ hall, hlen⟩

theorem post_true (l : OpenLaw) (args : List WData) : l.row.toRowW.claim.post args (.bool true) args = true :=
  postW_of (r := l.row.toRowW) (X := (true == true))
    (show WShape.has [] (.bool true) .bool = true by first | rfl | decide | simp [WShape.has, WShape.arms, WShape.armsAll])
    (show (WTm.eq .res (.lit (.bool true))).value [] { args := args, res := some (.bool true), after := args } = some (.bool (true == true)) from w_eq_bool (w_res rfl) w_lit) rfl

/-! ### the attachment: holds_open's last premise (the goal 'hc' behind k_head) from a wpAny of the law's body -/
/-- the same from a codeAny of the CALL (for a layer whose function contracts speak of calls) -/
theorem attach_call {l : OpenLaw} {n : Nat} {q : Program} {loose : List Str} {XP : (Str → Option Value) → Heap → Prop} {YP : World → Heap → Prop} {d : DefRec}
    (hn : l.most = some n) (hdf : d.params.defaults = [])
    (call : ∀ (w : World) (s₀ s₁ : Shared) (mg mb : Str → Option Value) (fa : Addr) (o : Obj) (pm cd doc : Value) (a : Addr) (vs : List Value) (ns : List Int),
      Ground q loose [] XP w s₀ mg mb s₁.heap → YP w s₁.heap →
      s₁.heap.get? fa = some o → o.data = .func (docDef d.name d.params d.body d.scope pm cd doc) → s₁.heap.CodeRec cd d.name → mg d.name = some (.ref fa) →
      s₁.heap.get? a = some { cls := .type "list", data := .seq vs.toArray } → IntsAre vs ns → ns.length ≤ n → s₁.gens = #[] →
      codeAny (model l.prog w) callerA (.call (.ref fa) ⟨[.ref a], []⟩) (fun r s' => r = .ok (.ret (.bool true)) ∧ OldK s₁.heap s'.heap ∧ s'.os = s₁.os ∧ AllBare s'.gens) s₁) :
    WalkO q loose XP YP l.row.toRowW d [] (fun f vs => PySem.call f vs) := by
  intro w s₀ s₁ mg mb G Y fa o pm cd doc dV kV ho hd hcd hD hmg hg args vals as hpre hlay hrd hwl hlo
  obtain rfl : dV = .none := Dflts.none hD hdf
  obtain rfl : kV = .none := Dflts.noKw hD
  obtain ⟨a, vs, ns, rfl, rfl, hobj, hints, hlen⟩ := script_of hn hpre hwl
  refine enter_call (codeAny_mono (call w s₀ s₁ mg mb fa o pm cd doc a vs ns G Y ho (fd_plain hd) hcd hmg hobj hints hlen hg) fun r s' hq => ?_)
  obtain ⟨rfl, h2, h3, h4⟩ := hq
  exact ⟨.inl ⟨.bool true, .bool true, [], rfl, fun _ => rfl, .bool true, post_true l _, fun _ => ⟨List.Pairwise.nil, fun _ hm => (nomatch hm)⟩⟩, h2, h3, h4⟩

/-! ### rules over ANY heap (no ledger) from facts about the written part K: the library's own take a ledger (News) for what they write -/
section
variable {prog : Program} {w : World} {A : Around} {E : Value → Shared → Prop} {s : Shared} {K : Frag}

/-! the whole heap as the ledger: makes every rule that writes through a ledger a rule over any heap -/
end
end Att

namespace L2
open PySem PySem.Spec PyProof.Rows

theorem vals_ints : ∀ {vs : List Value} {ns : List Int}, IntsAre vs ns → Vals (ns.map V.int) vs
  | _, _, .nil => .nil
  | _, _, .cons n t h => .cons ⟨t, rfl⟩ (vals_ints h)

/-- nothing is tracked but the script, known to the object (or it is an object of the module) -/
def Only (H : Hp) : Prop := ∀ b, H b = none ∨ ∃ o xs, H b = some (.frz o (.lst xs))

/-- THE HEAD: the law's promise, at the heap behind the top. F, the promise of the law's def, may use that base is part of the heap (so K.In base, base.Ns mainGlobals mg stand in Mod) -/
theorem law_call {P : Program} {w : World} {K : PySem.W.Frag} {mg mb : Str → Option Value} {CX : CXT} {k : Nat} {fa a : Addr} {fd : FuncData} {x : Str} {sp : Sp} {s₁ : Shared} {vs : List Value} {ns : List Int}
    (KX : K.In s₁.heap) (hns : s₁.heap.Ns mainGlobals mg) (hb : s₁.heap.Ns builtinsNs mb) (hbb : ∀ x : Str, x ≠ "__name__" → mb x = bootBuiltins x) (hlim : s₁.heap.NoLimit) (hg : s₁.gens = #[])
    (ha : s₁.heap.get? a = some { cls := .type "list", data := .seq vs.toArray }) (hi : IntsAre vs ns) (hl : ns.length ≤ sizeLine) (hr : Room k callerA)
    (F : ∀ base : Heap, K.In base → base.Ns mainGlobals mg → FnOk P w K mg base CX k fa fd [x] sp) (hbind : ∀ (s : Shared) (u : Value), BindsTo s fd ⟨[u], []⟩ [(x, u)])
    (hsp : ∀ H : Hp, Only H → SqL K H a (ns.map V.int) → sp [.ref a] H (fun v _ => v = .bl true) fun _ _ _ => False)
    (hCX : ∀ H e s', CX [] H s₁ (fun _ _ _ => False) e s' → False) :
    codeAny (model P w) callerA (.call (.ref fa) ⟨[.ref a], []⟩) (fun r s' => r = .ok (.ret (.bool true)) ∧ OldK s₁.heap s'.heap ∧ s'.os = s₁.os ∧ AllBare s'.gens) s₁ := by
  have rv := vals_ints hi
  have lenV := hi.length
  -- from an abstract heap in which nothing but the script may be tracked
  have core : ∀ H : Hp, Only H → SqL K H a (ns.map V.int) → HOk P w H s₁.heap → (∀ b, H b ≠ none → b = a) → (H a ≠ none → K.lookup a = none) →
      codeAny (model P w) callerA (.call (.ref fa) ⟨[.ref a], []⟩) (fun r s' => r = .ok (.ret (.bool true)) ∧ OldK s₁.heap s'.heap ∧ s'.os = s₁.os ∧ AllBare s'.gens) s₁ := by
    intro H hO hS hok hA hK
    have base_of : ∀ {b : Addr} {o : Obj}, s₁.heap.get? b = some o → H b = none → (hidT s₁.heap H).get? b = some o := fun e n => hidT_get e n
    have noA : ∀ {b : Addr} {o : Obj} {es : Array DictEntry} {ep : Nat}, s₁.heap.get? b = some o → o.data = .dict es ep → H b = none := fun {b o es ep} e d => by
      cases q : H b with
      | none => rfl
      | some u =>
        have e' : b = a := hA b (by rw [q]; simp)
        subst e'
        rw [ha] at e; cases e
        have d' : Data.seq vs.toArray _ = Data.dict es ep := d
        cases d'
    have nsK : ∀ {b : Addr} {m : Str → Option Value}, s₁.heap.Ns b m → (hidT s₁.heap H).Ns b m := fun {b m} ⟨o, es, ep, e, d, r⟩ => ⟨o, es, ep, base_of e (noA e d), d, r⟩
    have hKb : K.In (hidT s₁.heap H) := fun b o e => base_of (KX b o e) (by
      cases q : H b with
      | none => rfl
      | some u =>
        have e' : b = a := hA b (by rw [q]; simp)
        subst e'
        rw [hK (by rw [q]; simp)] at e; cases e)
    have hM : Mod K mg (hidT s₁.heap H) := ⟨hKb, nsK hns, ⟨mb, nsK hb, hbb⟩, let ⟨mc, h1, h2⟩ := hlim; ⟨mc, nsK h1, h2⟩⟩
    have e0 : Env0 P w K mg (hidT s₁.heap H) callerA [] s₁ H := ⟨rfl, hM, fun b o e => of_hidT e, Nat.le_of_eq (hidT_size _ _), trivial, fun b hb => absurd (show b ∈ ([] : List Addr) from hb) (by simp), hok, .of_eq hg⟩
    refine codeAny_mono ((F _ hKb (nsK hns)).run callerA [] s₁ H ⟨[.ref a], []⟩ [.ref a] [.ref a] _ _ hr e0 (hbind s₁ (.ref a)) (.cons rfl .nil) (hsp H hO hS)) fun r s' h => ?_
    cases r with
    | error e => exact (hCX H e s' h).elim
    | ok fl =>
      cases fl with
      | next => exact False.elim h
      | brk => exact False.elim h
      | cont => exact False.elim h
      | ret u =>
        obtain ⟨v, H', os, bare, un, hok', r', q⟩ := h
        have q' : v = .bl true := q
        subst q'
        obtain rfl : u = Value.bool true := r'
        refine ⟨rfl, OldK.of_keep fun b o e => ?_, os, bare⟩
        cases q : H b with
        | none => exact un.keep b o e q (by intro z; exact absurd (show b ∈ ([] : List Addr) from z) (by simp)) (by simp)
        | some u =>
          rcases hO b with z | ⟨ob, xs, z⟩
          · rw [q] at z; cases z
          · have z2 := un.frzs b ob _ z
            obtain ⟨e1, _⟩ := hok b _ z
            obtain ⟨e2, _⟩ := hok' b _ z2
            rw [e] at e1; cases e1
            exact e2
  cases hk : K.lookup a with
  | some o =>
    -- the script is one of the module's own objects
    have e := KX a o hk
    rw [ha] at e
    cases e
    refine core (fun _ => none) (fun _ => .inl rfl) (.inr ⟨_, vs.toArray, _, hk, rfl, rfl, rfl, by rw [List.size_toArray, lenV]; exact hl, by simpa using rv⟩) (fun b u z => by have z' : (none : Option HO) = some u := z; cases z') (fun b z => absurd rfl z) fun z => absurd rfl z
  | none =>
    refine core (fun b => if b = a then some (.frz { cls := .type "list", data := .seq vs.toArray } (.lst (ns.map V.int))) else none) (fun b => ?_) (.inl (.inr ⟨{ cls := .type "list", data := .seq vs.toArray }, if_pos rfl⟩)) (fun b u z => ?_) (fun b z => ?_) fun _ => hk
    · by_cases hb : b = a
      · exact .inr ⟨_, _, if_pos hb⟩
      · exact .inl (if_neg hb)
    · by_cases hb : b = a
      · have z' := (if_pos hb).symm.trans z
        cases z'
        subst hb
        exact ⟨ha, by rw [List.length_map]; exact hl, vs, _, rv, ha⟩
      · have z' := (if_neg hb).symm.trans z
        cases z'
    · by_cases hb : b = a
      · exact hb
      · exact absurd (if_neg hb) z
end L2

namespace L2
open PySem PySem.Spec PyProof.Rows

/-- the goal that k_head leaves (case hc), from the law's promise. F gives the function object fd (K's own) once, then the promise over every base -/
theorem walk_of {l : PySem.W.OpenLaw} {n k : Nat} {q : Program} {loose : List Str} {XP : (Str → Option Value) → Heap → Prop} {YP : World → Heap → Prop} {d : DefRec} {K : Params → PySem.W.Frag} {CX : World → CXT} {sp : World → Sp} {x : Str}
    (hn : l.most = some n) (hn2 : n ≤ sizeLine) (hdf : d.params.defaults = []) (hr : Room k callerA)
    (hY : ∀ (w : World) (h : Heap), YP w h → (K w.params).In h)
    (F : ∀ (w : World) (mg : Str → Option Value) (fa : Addr) (h : Heap), (K w.params).In h → h.Ns mainGlobals mg → mg d.name = some (.ref fa) →
      ∃ fd : FuncData, (∀ (s : Shared) (u : Value), BindsTo s fd ⟨[u], []⟩ [(x, u)]) ∧
        ∀ base : Heap, (K w.params).In base → base.Ns mainGlobals mg → FnOk l.prog w (K w.params) mg base (CX w) k fa fd [x] (sp w))
    (hsp : ∀ (w : World) (H : Hp) (a : Addr) (ns : List Int), ns.length ≤ n → Only H → SqL (K w.params) H a (ns.map V.int) → sp w [.ref a] H (fun v _ => v = .bl true) fun _ _ _ => False)
    (hCX : ∀ (w : World) (H : Hp) (s : Shared) (e : Value) (s' : Shared), CX w [] H s (fun _ _ _ => False) e s' → False) :
    PySem.W.WalkO q loose XP YP l.row.toRowW d [] (fun f vs => PySem.call f vs) := by
  refine Att.attach_call hn hdf fun w s₀ s₁ mg mb fa o pm cd doc a vs ns G Y ho hd hcd hmg hobj hints hlen hg => ?_
  have KX := hY w _ Y
  obtain ⟨fd, hb, hF⟩ := F w mg fa _ KX G.T.g hmg
  exact law_call KX G.T.g G.T.b G.T.builtins G.T.nolimit hg hobj hints (Nat.le_trans hlen hn2) hr hF hb (fun H hO hS => hsp w H a ns hlen hO hS) fun H e s' => hCX w H s₁ e s'
end L2

/- THE LAST THEOREM (shape; LID, My.* are yours):
   My.Adr: a structure of the addresses that your layer names (classes, functions); My.Txt K t: a structure (Prop) of the equations over K;
   My.txt_mk : {K} {implicit addresses ..} (e1 : nsIn K mainGlobals "law" = some (some (.ref f))) (e2 : K.lookup f = some ⟨oc, od, .func (fnOf "law" "law" params body scope dV kV doc pm an cdv ct), sl⟩) (e3 : codeIn K cdv "law" = true) .. : ∃ t, My.Txt K t

set_option maxRecDepth 100000 in
set_option maxHeartbeats 0 in
theorem PySem.Challenge.cw_LID_holds : PySem.Challenge.rw_LID.Holds := by
  w_on; o_law; k_head; (case hw => w_witness2)
  k_fill
  refine L2.walk_of (l := PySem.Challenge.rw_LID) (n := 63) (k := 40) (x := "script") (CX := fun w => ..) (sp := fun _ => My.sp_law) rfl (by decide) rfl ⟨rfl, by decide, by decide⟩ (fun w h Y => PySem.W.kIn_of Y) ?F ?S ?C
  case F =>
    intro w mg fa h KX G hmg
    have T : ∃ t, My.Txt (L2.KOf KX) t := by
      dsimp only [L2.KOf]                          -- K must stand as «<heap const> w.params» for k_is
      refine' My.txt_mk ?e1 ?e2 ?e3 ..
      (case e1 => PySem.W.k_is)                    -- in the order: a name -> its address -> its object -> its parts
      (case e2 => PySem.W.k_is)
      ..
    obtain ⟨t, T⟩ := T
    have e0 := hmg.symm.trans (PySem.W.mg_of KX G T.law)
    cases e0                                       -- fa is the law's own address
    exact ⟨_, fun s u => .of_eq rfl, fun base kb nb => My.law_fn T kb nb⟩     -- if «.of_eq rfl» comes too early: refine' ⟨_, ?b, fun base kb nb => My.law_fn T kb nb⟩; exact fun s u => .of_eq rfl
  case S => exact fun w H a ns hl hO hS => ..
  case C => exact ..
(the tactic k_is has no namespace: write k_is) -/

/-! SHORT WORDS over the layer: a def of the text, its body, what a loop and a test want. -/
namespace L2
open PySem PySem.Spec PyProof.Rows

/-! ### the text by places -/
/-- the j-th statement of a class's body -/
def inClass (s : Stmt) (j : Nat) : Stmt := match s with
  | .ClassDef _ _ _ body _ _ _ _ _ _ _ => body.getD j (.Pass ⟨0, 0, 0, 0⟩)
  | _ => .Pass ⟨0, 0, 0, 0⟩
def defArgs (s : Stmt) : Arguments := match s with
  | .FunctionDef _ a _ _ _ _ _ _ _ _ => a
  | _ => { posonlyargs := [], args := [], vararg := none, kwonlyargs := [], kw_defaults := [], kwarg := none, defaults := [] }
def defBody (s : Stmt) : List Stmt := match s with
  | .FunctionDef _ _ b _ _ _ _ _ _ _ => b
  | _ => []
def defScope (s : Stmt) : Scope := match s with
  | .FunctionDef _ _ _ _ _ _ sc _ _ _ => sc
  | _ => { kind := .function, names := [], isGenerator := false, isCoroutine := false }

/-! ### no exception leaves a def -/
abbrev CX0 : CXT := fun _ _ _ _ _ _ => False
abbrev E0 : XK := fun _ _ _ => False
theorem pass0 {X : Cx} : Passes CX0 X E0 := fun _ _ _ _ _ _ _ h => h.elim

/-! ### a def (or method) of the text as it stands behind the top -/
structure Fun (K : PySem.W.Frag) (x qual : Str) (st : Stmt) (f : Addr) (fd : FuncData) : Prop where
  ex : ∃ (oc : Value) (od : Option Addr) (kV doc pm : Value) (an : Option Addr) (cdv ct : Value) (osl : Array (Option Value)),
    fd = PySem.W.fnOf x qual (defArgs st) (defBody st) (defScope st) .none kV doc pm an cdv ct ∧ K.lookup f = some ⟨oc, od, .func fd, osl⟩ ∧ PySem.W.codeIn K cdv qual = true
  kp : PySem.W.keepIn K (.ref f) = true
section
variable {P : Program} {w : World} {K : PySem.W.Frag} {mg : Str → Option Value} {base : Heap}
/-- THE RULE for a def: its body as a term of rules, and the reading of that term -/
theorem Fun.ok {x qual : Str} {st : Stmt} {f : Addr} {fd : FuncData} {N ps : List Str} {k : Nat} {sp : Sp} (F : Fun K x qual st f fd) (S : FnScope N ps (defScope st)) (len : ∀ vs H Q E, sp vs H Q E → vs.length = ps.length)
    (hbody : ∀ (cdv : Value) (A : Around) (outer : List Env) (s : Shared) (H : Hp) (vs : List V) (Q : VK) (E : XK), Room k (A.deeper (envOfC qual (defScope st) s.heap.objs.size f cdv)) → sp vs H Q E →
      ∃ t, PSs (cxOf CX0 P w K mg base N qual (defScope st) f cdv A outer s H E).nox (defBody st) t ∧ t { nx := fun _ H' => Q .non H', rt := Q } (start N vs) H) : FnOk P w K mg base CX0 (k + 1) f fd ps sp := by
  obtain ⟨oc, od, kV, doc, pm, an, cdv, ct, osl, rfl, lk, hcd⟩ := F.ex
  refine fn_of lk hcd S len fun A outer s H vs Q E hr hsp => ?_
  obtain ⟨t, h, q⟩ := hbody cdv A outer s H vs Q E hr hsp
  exact ⟨t, h.nox, q⟩
/-- how its arguments bind (no defaults): h is «fun _ _ _ _ _ _ us hl => match us, hl with | [_, _], _ => rfl», one _ a parameter -/
theorem Fun.binds {x qual : Str} {st : Stmt} {f : Addr} {fd : FuncData} {ps : List Str} (F : Fun K x qual st f fd)
    (h : ∀ (kV doc pm : Value) (an : Option Addr) (cdv ct : Value) (us : List Value), us.length = ps.length → bindArgs (PySem.W.fnOf x qual (defArgs st) (defBody st) (defScope st) .none kV doc pm an cdv ct) ⟨us, []⟩ = pure (ps.zip us)) : Binds K fd ps [] := by
  obtain ⟨oc, od, kV, doc, pm, an, cdv, ct, osl, rfl, lk, hcd⟩ := F.ex
  exact .all (h kV doc pm an cdv ct)
theorem fun_mk {x qual : Str} {st : Stmt} {f : Addr} {oc : Value} {od an : Option Addr} {osl : Array (Option Value)} {kV doc pm cdv ct : Value} (l : K.lookup f = some ⟨oc, od, .func (PySem.W.fnOf x qual (defArgs st) (defBody st) (defScope st) .none kV doc pm an cdv ct), osl⟩)
    (c : PySem.W.codeIn K cdv qual = true) (k : PySem.W.keepIn K (.ref f) = true) : Fun K x qual st f (PySem.W.fnOf x qual (defArgs st) (defBody st) (defScope st) .none kV doc pm an cdv ct) := ⟨⟨oc, od, kV, doc, pm, an, cdv, ct, osl, rfl, l, c⟩, k⟩
end
theorem small1000 {n : Nat} (h : n ≤ 1000) : n < sizeLine := Nat.lt_of_le_of_lt h (by decide)

/-! ### expressions in short: the name that stands in the i-th slot -/
section
variable {X : Cx}
theorem pv (i : Nat) {x : Str} {pos : Pos} (hN : X.N[i]? = some x := by rfl) (hv : Vis X.env.scope x := by first | exact Or.inl rfl | exact Or.inr (Or.inl rfl) | exact Or.inr (Or.inr rfl)) (hd : (x == ("__debug__" : Str)) = false := by decide)
    (hcd : (x == ("__classdict__" : Str)) = false := by decide) : PE X (.Name x pos) (tVar i) := pe_var hN hv hd hcd
end

/-! ### tests -/
theorem iteF {A B : Prop} (h : B) : if false = true then A else B := by
  rw [if_neg Bool.false_ne_true]
  exact h
theorem iteT {A B : Prop} (h : A) : if true = true then A else B := by
  rw [if_pos rfl]
  exact h
theorem ite2 {c A B : Prop} [Decidable c] (h1 : c → A) (h2 : ¬ c → B) : if c then A else B := by
  by_cases h : c
  · rw [if_pos h]
    exact h1 h
  · rw [if_neg h]
    exact h2 h
theorem iteNS {c A B : Prop} [Decidable c] (hc : c) (h : B) : if (!decide c) = true then A else B := by
  rw [decide_eq_true hc]
  exact iteF h

/-! ### heaps -/
/-- all that was tracked is as it was -/
def Same (H H' : Hp) : Prop := ∀ b o, H b = some o → H' b = some o
theorem Same.trans {H H1 H2 : Hp} (a : Same H H1) (b : Same H1 H2) : Same H H2 := fun c o h => b c o (a c o h)
/-! ### a dict's pairs: keys that differ -/
section
variable {κ : Type} [DecidableEq κ]
end
/-! ### lists -/
end L2


namespace SS
open PySem

end SS


namespace SS
open PySem PySem.Spec PyProof.Rows

section
variable {prog : Program} {w : World} {A : Around} {E : Value → Shared → Prop} {s : Shared}
end

section
variable {prog : Program} {w : World} {A : Around} {E : Value → Shared → Prop} {s : Shared}

end
end SS


namespace SS
open PySem PySem.Spec PyProof.Rows

section
variable {prog : Program} {w : World} {A : Around} {R : Result → Shared → Prop} {I : Addr} {fp wr : List Addr} {G : Array GenState → Array GenState → Prop} {n : Nat} {P : Nat → Value → Prop} {St : Nat → Shared → Prop}

end

section
variable {prog : Program} {w : World} {A : Around} {E : Value → Shared → Prop} {s : Shared}

end
end SS


namespace SS
open PySem PySem.Spec PyProof.Rows
section
variable {prog : Program} {w : World} {A : Around} {E : Value → Shared → Prop} {s : Shared}
end
end SS


namespace SS
open PySem PySem.Spec PyProof.Rows
section
variable {prog : Program} {w : World} {A : Around} {E : Value → Shared → Prop} {s : Shared}

end
end SS


namespace SS
open PySem PySem.Spec PyProof.Rows PySem.W

/-! sorted without doubles -/
section
variable {prog : Program} {w : World} {A : Around} {E : Value → Shared → Prop} {s : Shared}
end
end SS


namespace L2
open PySem PySem.Spec PyProof.Rows PySem.W SS

/-! a thing that nobody needs any more -/
section
variable {X : Cx}
end
end L2


namespace L2
open PySem PySem.Spec PyProof.Rows PySem.W SS
section
variable {X : Cx}
theorem op_fdivL : OpR X (binaryOp .FloorDiv) (rI (fun _ j => 0 < j ∧ j < 2 ^ 64) fun i j => .int (i / j)) := opI fun i j _ _ _ _ _ hc q => by
  have h1 : (0 : Int) < j := hc.1
  have h2 : j < 2 ^ 64 := hc.2
  refine floordiv_int (by omega) (by rw [Int.fdiv_eq_ediv_of_nonneg i (by omega)]; exact q) (.inl (PyProof.noPylong_of_log2 ?_))
  have : j.natAbs.log2 < 64 := (Nat.log2_lt (by omega)).mpr (by omega)
  omega

theorem atI_int {α : Type} {xs : List α} {i : Int} {v : α} (h0 : 0 ≤ i) (h : xs[i.toNat]? = some v) : atI xs i = some v := by
  have e : i = ((i.toNat : Nat) : Int) := by omega
  rw [e]
  exact atI_nat h
/-- a cut between a statement and what stands behind it -/
def tCut (t u : TS) : TS := fun D σ H => ∃ M : St → Hp → Prop, t { D with nx := M } σ H ∧ ∀ σ' H', M σ' H' → u D σ' H'
theorem pss_cut {st : Stmt} {rest : List Stmt} {t u : TS} (h1 : PS X st t) (h2 : PSs X rest u) : PSs X (st :: rest) (tCut t u) := by
  intro pins s σ H D I h
  obtain ⟨M, hm, hr⟩ := h
  refine wpAny_execs_cons (thn (h1 pins s σ H { D with nx := M } I hm) fun f s1 q => ?_)
  cases f with
  | next =>
    obtain ⟨σ', H', I', q⟩ := q
    exact h2 pins s1 σ' H' D I' (hr σ' H' q)
  | ret v => exact q
  | brk => exact q
  | cont => exact q
/-- xs[i] for xs[i] op= e, i not below nought -/
theorem get_list : PGet X (fun x y H Q => ∃ p xs i v, x = .ref p ∧ y = .int i ∧ 0 ≤ i ∧ SqL X.K H p xs ∧ atI xs i = some v ∧ Q v H) := by
  intro pins s σ H x y ov iv Q I rx ry h
  obtain ⟨p, xs, i, z, rfl, rfl, h0, hq, he, q⟩ := h
  cases rx
  obtain ⟨t, rfl⟩ := ry
  obtain ⟨its, r, pl, hz⟩ := I.list hq
  obtain ⟨j, h1, h2, h3, h4, h5⟩ := atI_get he
  obtain ⟨w, ew, rw'⟩ := r.get h2
  have hn := line63
  have hj : i.toNat = j := by
    rw [seqIndex_of h0 h5] at h1
    exact Option.some.inj h1
  exact wpAny_getItem_list pl.isList h0 (by omega) (by rw [hj]; simpa using ew) ⟨z, H, I, rw', q⟩
/-! sorted(set(e)), list(range(a, b)) -/
end
end L2


namespace L2
open PySem PySem.Spec PyProof.Rows PySem.W SS
/-- a def of the text, with its promise -/
def Has (P : Program) (w : World) (K : PySem.W.Frag) (mg : Str → Option Value) (base : Heap) (k : Nat) (x : Str) (ps : List Str) (sp : Sp) : Prop :=
  ∃ f fd, FnOk P w K mg base CX0 k f fd ps sp ∧ mg x = some (.ref f) ∧ PySem.W.keepIn K (.ref f) = true ∧ Binds K fd ps []
theorem pe_fn {X : Cx} {k : Nat} {x : Str} {ps : List Str} {sp : Sp} {e : Expr} {es : List Expr} {t : TA} {p pos : Pos} (h : Has X.prog X.w X.K X.mg X.base k x ps sp) (hr : Room k X.A) (hg : Gl X x) (ha : PA X (e :: es) t) (hdb : (x == ("__debug__" : Str)) = false := by decide)
    (he : starEach (e :: es) X.env = (false, eval e X.env) :: starEach es X.env := by rfl) (hpl : (backTo pos (starEach es X.env)).any (·.1) = false := by rfl) : PE X (.Call (.Name x p) (e :: es) [] pos) (tCall sp [] E0 t) := by
  obtain ⟨f, fd, G, m, kp, b⟩ := h
  exact pe_call G hr hg m kp b .nil pass0 ha hdb he hpl

/-! tuples stay -/
theorem same_new {H : Hp} {t : Addr} {o : HO} (h : H t = none) : Same H (upd H t o) := fun a u e => by rw [upd_ne (ne_of_none e h)]; exact e
theorem Same.upd {H H' : Hp} {r : Addr} {o : HO} (h : Same H H') (hr : H r = none) : Same H (L2.upd H' r o) := fun a u e => by rw [upd_ne (ne_of_none e hr)]; exact h a u e
theorem new_ne {H : Hp} {a b : Addr} {o : HO} (h : L2.upd H a o b = none) : a ≠ b ∧ H b = none := by
  have e : a ≠ b := fun e => by rw [← e, upd_same] at h; cases h
  exact ⟨e, by rw [upd_ne e.symm] at h; exact h⟩

/-! lists of whole numbers compared -/
/-! the stretches of rising numbers -/
end L2


namespace KP
open PySem PySem.W PyProof.Rows

section
variable {n : Nat} {lt : Nat → Nat → Bool}
end
end KP


namespace L2
open PySem PySem.Spec PyProof.Rows PySem.W SS
section
variable {X : Cx} {pins : List (Addr × Obj)} {σ : St} {H : Hp} {s : Shared} {a : Addr} {o : Obj}
end
end L2


namespace L2
open PySem PySem.Spec PyProof.Rows PySem.W SS
/-! pairs by order -/
section
variable {prog : Program} {w : World} {A : Around} {E : Value → Shared → Prop} {s : Shared}
end

section
variable {X : Cx} {pins : List (Addr × Obj)} {σ : St} {H : Hp} {s : Shared}
end
end L2


namespace L2
open PySem PySem.Spec PyProof.Rows PySem.W SS
section
variable {X : Cx} {pins : List (Addr × Obj)} {σ : St} {H : Hp} {s : Shared}
end
end L2


namespace L2
open PySem PySem.Spec PyProof.Rows PySem.W SS
section
variable {X : Cx} {pins : List (Addr × Obj)} {σ : St} {H : Hp} {s : Shared}
end
end L2


namespace L2
open PySem PySem.Spec PyProof.Rows PySem.W SS
section
variable {X : Cx}
end
end L2


namespace L2
open PySem PySem.Spec PyProof.Rows PySem.W SS
section
variable {X : Cx} {pins : List (Addr × Obj)} {σ : St} {H : Hp} {s : Shared} {a : Addr} {o : Obj}
end
section
variable {X : Cx} {pins : List (Addr × Obj)} {σ : St} {H : Hp} {s : Shared}
end
end L2


namespace L2
open PySem PySem.Spec PyProof.Rows PySem.W SS
section
variable {X : Cx}
end
end L2


namespace L2
open PySem SS
/-! the pieces, by a rule -/
/-! the law's way: one row after another -/
end L2
namespace L2
open PySem PySem.Spec PyProof.Rows PySem.W SS
end L2


namespace L2
open PySem SS
/-! ### the bag -/
structure BagAt (H : Hp) (b c : Addr) : Prop where
  ex : ∃ (ns : List Int) (i x y : Int), H b = some (.lst [.ref c, .int i, .int x, .int y]) ∧ H c = some (.lst (ns.map V.int)) ∧ 0 ≤ i ∧ ns.length ≤ 63
def spBag (K : PySem.W.Frag) : Sp := fun vs H Q _ => ∃ (a : Addr) (ns : List Int), vs = [.ref a] ∧ SqL K H a (ns.map V.int) ∧ ∀ (b c : Addr) (H' : Hp), Same H H' → H b = none → H c = none → BagAt H' b c → Q (.ref b) H'
def spPull : Sp := fun vs H Q _ => ∃ (b c : Addr) (t : Int), vs = [.ref b, .int t] ∧ 0 < t ∧ t < 2 ^ 64 ∧ BagAt H b c ∧ ∀ (v : Int) (xs : List V), 0 ≤ v → v < t → BagAt (upd H b (.lst xs)) b c → Q (.int v) (upd H b (.lst xs))
theorem BagAt.mono {H H' : Hp} {b c : Addr} (h : BagAt H b c) (s : Same H H') : BagAt H' b c := by
  obtain ⟨ns, i, x, y, h1, h2, h3⟩ := h
  exact ⟨ns, i, x, y, s _ _ h1, s _ _ h2, h3⟩
theorem BagAt.at {H : Hp} {b c : Addr} (h : BagAt H b c) : (∃ xs, H b = some (.lst xs)) ∧ ∃ xs, H c = some (.lst xs) := by
  obtain ⟨ns, i, x, y, h1, h2, h3⟩ := h
  exact ⟨⟨_, h1⟩, ⟨_, h2⟩⟩
theorem BagAt.new {H : Hp} {b c q : Addr} (h : BagAt H b c) (hq : H q = none) : q ≠ b ∧ q ≠ c := by
  obtain ⟨⟨_, h1⟩, ⟨_, h2⟩⟩ := h.at
  exact ⟨(ne_of_none h1 hq).symm, (ne_of_none h2 hq).symm⟩
theorem BagAt.other {H : Hp} {b c q : Addr} {o : HO} (h : BagAt H b c) (hq : q ≠ b ∧ q ≠ c) : BagAt (upd H q o) b c := by
  obtain ⟨ns, i, x, y, h1, h2, h3⟩ := h
  exact ⟨ns, i, x, y, by rw [upd_ne hq.1.symm]; exact h1, by rw [upd_ne hq.2.symm]; exact h2, h3⟩
def spLaw (K : PySem.W.Frag) : Sp := fun vs H Q _ => ∃ (a : Addr) (ns : List Int), vs = [.ref a] ∧ SqL K H a (ns.map V.int) ∧ ns.length ≤ 63 ∧ ∀ H', Q (.bl true) H'
end L2


namespace L2
open PySem PySem.Spec PyProof.Rows PySem.W SS
section
variable {P : Program} {w : World} {K : PySem.W.Frag} {mg : Str → Option Value} {base : Heap}
end
/-! keys -/
/-! a set of blocks -/
end L2


namespace L2
open PySem PySem.Spec PyProof.Rows PySem.W SS
/-- all but the thing at b is as it was -/
def SameX (b : Addr) (H H' : Hp) : Prop := ∀ a o, a ≠ b → H a = some o → H' a = some o
theorem SameX.refl (b : Addr) (H : Hp) : SameX b H H := fun _ _ _ e => e
theorem SameX.bag {b : Addr} {H H1 : Hp} {o : HO} (h : SameX b H H1) : SameX b H (upd H1 b o) := fun a u n e => by rw [upd_ne n]; exact h a u n e
theorem SameX.new {b q : Addr} {H H1 : Hp} {o : HO} (h : SameX b H H1) (hq : H q = none) : SameX b H (upd H1 q o) := fun a u n e => by rw [upd_ne (ne_of_none e hq)]; exact h a u n e
/-! lists of pairs compared -/
/-! the law's heap and pieces -/
end L2


namespace L2
open PySem PySem.Spec PyProof.Rows PySem.W SS
section
variable {X : Cx}
end
/-! what the pieces are like -/
end L2


namespace L2
open PySem PySem.Spec PyProof.Rows PySem.W SS
/-! sizes by first block -/
end L2
namespace L2
open PySem PySem.Spec PyProof.Rows PySem.W SS
end L2


namespace L2
open PySem PySem.Spec PyProof.Rows PySem.W SS
theorem kt1 : mroOf (.type "KeyError") = pure [.type "KeyError", .type "LookupError", .type "Exception", .type "BaseException", .type "object"] := by rw [mroOf_type]; kernel_rfl
theorem kt2 : typeLookup (.type "KeyError") "__init__" = pure (some (.builtin "KeyError.__init__")) := by rw [typeLookup_type, builtinLookup_eq_fast]; kernel_rfl
/-- what is asked of the line of built-in classes below an own error class -/
structure XLine (B : String) (bm : List Value) : Prop where
  mro : mroOf (.type B) = pure bm
  ini : ∃ y, typeLookup (.type B) "__init__" = pure (some y)
  base : bm.contains (.type "BaseException") = true
  noA : bm.contains (.type "AttributeError") = false
  noN : bm.contains (.type "NameError") = false
theorem line_of {B nid iid : String} {bm : List Value} (F : ExcBaseFacts B nid iid bm) : XLine B bm := ⟨F.mroIs, ⟨_, F.init.lookup⟩, F.hasBase, F.noAttr, F.noName⟩
theorem keyLine : XLine "KeyError" [.type "KeyError", .type "LookupError", .type "Exception", .type "BaseException", .type "object"] := ⟨kt1, ⟨_, kt2⟩, by decide +kernel, by decide +kernel, by decide +kernel⟩
section
variable {prog : Program} {w : World} {A : Around} {R : Result → Shared → Prop} {h : Heap} {g : Array GenState} {d : Drawn} {t : Nat} {os : OsState} {nm q : Str} {C N : Addr} {bs bm bmB : List Value}
  {hdct : Bool} {sn : List Str} {sub : List Value} {ab : Bool} {col : Option Bool} {dd : Option Addr} {k0 k1 k2 k3 k5 : Option Value} {B Bn newId inN : String} {bmN rest : List Value}
/-- the object is made, whatever stands between the own class and the class whose __new__ is taken -/
theorem new_line (Fn : ExcBaseFacts Bn newId inN bmN) (hBn : bmB.contains (.type Bn) = true) (L : XLine B bmB) (T : OwnTail h bmB bm) (hC : h.get? C = some (excClassObj nm q C N bs bm hdct sn sub ab col dd k0 k1 k2 k3 k5 newId)) (hz : rest.length ≤ sizeLine)
    (hq : R (.ok (.ret (.ref (h.objs.size + 1)))) ⟨(h.push { cls := .type "tuple", data := .seq rest.toArray }).push { cls := .ref C, data := .fields #[.ref h.objs.size, .none, .none, .none, .bool false, .none] }, g, d, t, os⟩) :
    codeAny (model prog w) A (.builtin newId ⟨.ref C :: rest, []⟩) R ⟨h, g, d, t, os⟩ := by
  have en := Fn.ends
  have c1 := T.hasType hBn
  have c2 := T.hasType L.noA
  have c3 := T.hasType L.noN
  have hc : ∀ {X : String} {b : Bool}, bm.contains (.type X) = b → (Value.ref C :: bm).contains (.type X) = b := fun {X b} e => by rw [List.contains_cons, e]; cases b <;> rfl
  apply codeAny_builtinAt Fn.entry
  unfold Builtin.«BaseException.__new__»
  apply PySem.wpAt_bind
  show PySem.wpAt _ _ _ (stack >>= _) _ _ _
  refine PySem.wpAt_bind (PySem.wpAt_stack fun top under => PySem.wpAt_of_wpAny ?_)
  wp_walk
  apply PySem.wpAt_of_wpAny
  rw [Fn.owner]
  repeat (first
    | with_reducible refine wpAny_madeHere_exc Fn.canon hC ?_
    | with_reducible refine wpAny_loadPart_at hC ?_
    | (with_reducible refine wpAny_isSubtype_exc hC ?_; first | rw [hc c1] | rw [hc c2] | rw [hc c3])
    | wp_step)
  show R _ _
  rw [Heap.size_push]; exact hq
end
section
variable {prog : Program} {w : World} {A : Around} {E : Value → Shared → Prop} {h : Heap} {g : Array GenState} {d : Drawn} {t : Nat} {os : OsState}
variable {nm q : Str} {C N : Addr} {bs bm bmB : List Value} {hdct : Bool} {sn : List Str} {sub : List Value} {ab : Bool} {col : Option Bool} {dd : Option Addr} {k0 k1 k2 k3 k5 : Option Value} {B Bn newId nid initId inN : String} {bmN : List Value}
/-- an error of an own class is made, its own __init__ runs -/
theorem type_call_initU (Fn : ExcBaseFacts Bn newId inN bmN) (hBn : bmB.contains (.type Bn) = true) (F : XLine B bmB) (T : OwnTail h bmB bm) {mN : Str → Option Value} {rest : List Value} {fI : Addr} {oI : Obj} {Q : PySem.Fin → Shared → Prop}
    (hC : h.get? C = some (excClassObj nm q C N bs bm hdct sn sub ab col dd k0 k1 k2 k3 k5 newId)) (hn : h.Ns N mN) (hi : mN "__init__" = some (.ref fI)) (hfI : h.get? fI = some oI) (hfc : oI.cls = .type "function")
    (hq : wpAny (model prog w) A (call (.ref fI) (.ref (h.objs.size + 1) :: rest)) (fun r s' => r = .none ∧ Q (.done (.ret (.ref (h.objs.size + 1)))) s') E ⟨(h.push { cls := .type "tuple", data := .seq rest.toArray }).push { cls := .ref C, data := .fields #[.ref h.objs.size, .none, .none, .none, .bool false, .none] }, g, d, t, os⟩) (hrest : rest.length ≤ sizeLine) :
    wpAny (model prog w) A (Builtin.«type.__call__» ⟨.ref C :: rest, []⟩) Q E ⟨h, g, d, t, os⟩ := by
  repeat (first | with_reducible refine wpAny_loadPart_at hC ?_ | with_reducible refine wpAny_madeBy_exc hC ?_ | wp_step)
  refine codeAny_call_builtin_code (Code.quiet_builtin _ Fn.quiet) (wpAny_check_new_subU Fn hBn T hC ?_)
  refine new_line Fn hBn F T hC hrest ?_
  show wpAny _ _ _ _ _ _
  have kp : ∀ b o, h.get? b = some o → ((h.push { cls := .type "tuple", data := .seq rest.toArray }).push { cls := .ref C, data := .fields #[.ref h.objs.size, .none, .none, .none, .bool false, .none] }).get? b = some o := fun b o e => Heap.get?_push_of_some _ (Heap.get?_push_of_some _ e)
  have hC1 := kp _ _ hC
  have hf1 := kp _ _ hfI
  have hn1 : ((h.push { cls := .type "tuple", data := .seq rest.toArray }).push { cls := .ref C, data := .fields #[.ref h.objs.size, .none, .none, .none, .bool false, .none] }).Ns N mN :=
    let ⟨o, es, ep, e, r⟩ := hn; ⟨o, es, ep, kp _ _ e, r⟩
  have hget : ((h.push { cls := .type "tuple", data := .seq rest.toArray }).push { cls := .ref C, data := .fields #[.ref h.objs.size, .none, .none, .none, .bool false, .none] }).get? (h.objs.size + 1) = some
      { cls := .ref C, data := .fields #[.ref h.objs.size, .none, .none, .none, .bool false, .none] } := by heap_get
  have hcC : (Value.ref C :: bm).contains (.ref C) = true := by simp
  have T1 := T.keeps (h' := (h.push { cls := .type "tuple", data := .seq rest.toArray }).push { cls := .ref C, data := .fields #[.ref h.objs.size, .none, .none, .none, .bool false, .none] }) kp
  unfold isInstance
  repeat (first | with_reducible refine wpAny_loadPart_at hget ?_ | (with_reducible refine wpAny_isSubtype_exc hC1 ?_; rw [hcC]) | wp_step)
  show wpAny _ _ (typeLookup (.ref C) _) _ _ _
  obtain ⟨iy, hiy⟩ := F.ini
  refine wpAny_typeLookup_tail hC1 hn1 T1 F.mro hiy ?_
  rw [hi]
  refine wpAny_holding (wpAny_bind ?_)
  unfold bindSpecial
  refine wpAny_bind (wpAny_typeOf (T := "function") ⟨_, hf1, hfc⟩ ?_)
  rw [if_pos (by decide)]
  refine wpAny_pure (wpAny_bind (wpAny_mono hq (fun r s' hr => ?_) fun _ _ x => x))
  obtain ⟨rfl, hQ⟩ := hr
  wp_walk
  exact hQ
theorem call_initU (Fn : ExcBaseFacts Bn newId inN bmN) (hBn : bmB.contains (.type Bn) = true) (F : XLine B bmB) (T : OwnTail h bmB bm) {mN : Str → Option Value} {rest : List Value} {fI : Addr} {oI : Obj} {Q : Value → Shared → Prop}
    (hC : h.get? C = some (excClassObj nm q C N bs bm hdct sn sub ab col dd k0 k1 k2 k3 k5 newId)) (hn : h.Ns N mN) (hi : mN "__init__" = some (.ref fI)) (hfI : h.get? fI = some oI) (hfc : oI.cls = .type "function")
    (hq : wpAny (model prog w) (A.under (.builtin "type.__call__" ⟨.ref C :: rest, []⟩)) (call (.ref fI) (.ref (h.objs.size + 1) :: rest)) (fun r s' => r = .none ∧ Q (.ref (h.objs.size + 1)) s') E ⟨(h.push { cls := .type "tuple", data := .seq rest.toArray }).push { cls := .ref C, data := .fields #[.ref h.objs.size, .none, .none, .none, .bool false, .none] }, g, d, t, os⟩) (hrest : rest.length ≤ sizeLine) :
    wpAny (model prog w) A (call (.ref C) rest) Q E ⟨h, g, d, t, os⟩ := by
  have f1 := tc_lookup
  have f2 := tc_bind (.ref C)
  have hT : (⟨h, g, d, t, os⟩ : Shared).TypeIs (.ref C) "type" := ⟨_, hC, rfl⟩
  refine wpAny_call (codeAny_of_tree ?_)
  show wpAny _ _ (callAny (.ref C) _) _ _ _
  repeat (any_goals (first | assumption | with_reducible refine wpAny_loadPart_at hC ?_ | wp_step))
  refine ⟨rfl, ?_⟩
  refine codeAny_call_builtin_at (Code.quiet_builtin _ (by decide +kernel)) entry_typeCall (wpAny_check_type_call_sub hC (type_call_initU Fn hBn F T hC hn hi hfI hfc ?_ hrest))
  exact hq
end
end L2


namespace L2
open PySem PySem.Spec PyProof.Rows PySem.W SS
/-- an error's object: its class, its dict if it has one -/
def ExcP (nw : Bool) (C x : Addr) (od : Option Addr) (h : Heap) : Prop := ∃ o vs, h.get? x = some o ∧ o.cls = .ref C ∧ o.dict = od ∧ o.data = .fields vs ∧ 1 < vs.size ∧ (nw = true → ∃ t : Addr, vs = #[.ref t, .none, .none, .none, .bool false, .none])
def ExcO (nw : Bool) (C x : Addr) (od : Option Addr) : HO := .ext (ExcP nw C x od)
/-- an error's dict -/
def XdP (dx : Addr) (fs : List (Str × V)) (h : Heap) : Prop := fs.length ≤ 1000 ∧ ∃ mA, h.Ns1 dx mA ∧ (∀ f, RelO (fs.lookup f) (mA f)) ∧ PySem.Within mA (fs.map (·.1))
def XdO (dx : Addr) (fs : List (Str × V)) : HO := .ext (XdP dx fs)
theorem ExcP.at {nw : Bool} {C x : Addr} {od : Option Addr} {h h' : Heap} (e : ExcP nw C x od h) (k : ∀ o, h.get? x = some o → h'.get? x = some o) : ExcP nw C x od h' := by
  obtain ⟨o, vs, h1, r⟩ := e
  exact ⟨o, vs, k o h1, r⟩
theorem XdP.at {dx : Addr} {fs : List (Str × V)} {h h' : Heap} (e : XdP dx fs h) (k : ∀ o, h.get? dx = some o → h'.get? dx = some o) : XdP dx fs h' := by
  obtain ⟨z, mA, n, r⟩ := e
  exact ⟨z, mA, n.at k, r⟩
theorem ExcO.ok {P : Program} {w : World} {H : Hp} {nw : Bool} {C x : Addr} {od : Option Addr} {h : Heap} (e : ExcP nw C x od h) : ObjOk P w H h x (ExcO nw C x od) :=
  ⟨e, let ⟨o, _, h1, _⟩ := e; ⟨o, h1⟩, fun _ _ y k => y.at k⟩
theorem XdO.ok {P : Program} {w : World} {H : Hp} {dx : Addr} {fs : List (Str × V)} {h : Heap} (e : XdP dx fs h) : ObjOk P w H h dx (XdO dx fs) :=
  ⟨e, let ⟨_, _, ⟨o, _, _, h1, _⟩, _⟩ := e; ⟨o, h1⟩, fun _ _ y k => y.at k⟩
/-- what of the text an error's class must have -/
structure XCls (K : PySem.W.Frag) (C : Addr) : Prop where
  hd : PySem.W.hasDictIn K C = true
  sa : PySem.W.findIn K (.ref C) "__setattr__" = some (some (.builtin "object.__setattr__"))
  ob : PySem.W.mroIn K C (.type "object") = some true
  ro : ∃ cd, PySem.W.clsIn K C = some cd ∧ ∀ self, refuseLoop self "__setattr__" cd.mro = pure ()
theorem osa_openX {K : PySem.W.Frag} {prog : Program} {w : World} {A : Around} {s : Shared} {R : Result → Shared → Prop} {x C : Addr} {ox : Obj} {od : Option Obj} {name : Str} {tk : Tok} {v : Value} (X : K.In s.heap) (I : InstAt s.heap x ox C od) (c : XCls K C) (hn : NoAttr K C name)
    (h : ∀ b, wpAny (model prog w) A.in1 (Builtin.ObjectAttr.storeInOwnDict (.ref x) (.ref C) (.str name tk) name v b)
      (fun fin s' => match fin with | .done f => R (.ok f) s' | .again c' => c'.quiet = true ∧ codeAny (model prog w) A c' R s') (fun e s' => R (.error e) s') s) :
    codeAny (model prog w) A (.call (.builtin "object.__setattr__") ⟨[.ref x, .str name tk, v], []⟩) R s := by
  have SF := PySem.F.store_object
  obtain ⟨cd, hc, ho⟩ := c.ro
  have sub : Looks (model prog w) s.heap (isInstance (.ref x) (.type "object")) true := I.type.andThen (looks_mroIn X c.ob)
  refine codeAny_call_builtin SF.slot.plain SF.entry (@check_slot (model prog w) _ _ s "object.__setattr__" "object" "__setattr__" (.ref x) [.str name tk, v] [] _ SF.kind SF.split sub (SF.args (.ref x) (.str name tk) v) ?_)
  have hm : Looks (model prog w) s.heap (mroOf (.ref C)) cd.mro := (looks_clsIn X hc).andThen .now
  rw [osa_eq, refuse_eq]
  refine wpAny_bind (wpAny_bind (I.type.here (wpAny_bind (hm.here ?_))))
  rw [ho]
  refine wpAny_pure (wpAny_bind (I.type.here (wpAny_bind ((looks_findIn X hn).here (wpAny_bind (wpAny_pure ?_))))))
  exact h _
section
variable {X : Cx} {pins : List (Addr × Obj)} {σ : St} {H : Hp} {s : Shared} {A : Around} {E : Value → Shared → Prop}
theorem instX {C x : Addr} {od : Option Addr} {h : Heap} {o : Obj} {vs : Array Value} (h1 : h.get? x = some o) (h2 : o.cls = .ref C) (h3 : o.dict = od) (h4 : o.data = .fields vs) {oo : Option Obj} (hd : ∀ z, z = od → match z, oo with | some dx, some q => h.get? dx = some q | none, none => True | _, _ => False) : InstAt h x o C oo :=
  ⟨h1, h2, by unfold notCls; rw [h4], hd _ h3⟩
/-- the first field of an error -/
theorem xset_first {nw : Bool} {C x : Addr} {f : Str} {y : V} {u : Value} {Q : Unit → Shared → Prop} (I : Inv X pins σ H s) (e : H x = some (ExcO nw C x none)) (c : XCls X.K C) (n : NoAttr X.K C f) (ry : RelV y u)
    (h : ∀ (dx : Addr) s', H dx = none → Inv X pins σ (upd (upd H dx (XdO dx [(f, y)])) x (ExcO nw C x (some dx))) s' → Q () s') : wpAny (model X.prog X.w) A (setAttr (.ref x) f u) Q E s := by
  obtain ⟨⟨o, vs, h1, h2, h3, h4, h5, h6⟩, _, _⟩ := I.hok x _ e
  have J : InstAt s.heap x o C none := instX h1 h2 h3 h4 fun z e => by subst e; trivial
  refine set_plain I.kIn J c.sa (osa_openX (s := { s with toks := s.toks + 1 }) I.kIn J c n fun b => ?_)
  obtain ⟨cd, hc, hd'⟩ := any_some c.hd
  obtain ⟨oc, odi, oda, osl⟩ := o
  dsimp only at h2 h3 h4
  subst h2 h3 h4
  refine wpAny_bind (wpAny_pure (wpAny_bind (wpAny_bind (wpAny_loadPart h1 (wpAny_bind (Looks.here (s := { s with toks := s.toks + 1 }) (looks_clsIn I.kIn hc) ?_))))))
  rw [hd']
  have h1p : (s.heap.push { cls := .type "dict", data := .dict #[] }).get? x = some ⟨.ref C, none, .fields vs, osl⟩ := Heap.get?_push_of_some _ h1
  have hxs : x ≠ s.heap.objs.size := Nat.ne_of_lt (Heap.lt_size h1)
  refine wpAny_bind (wpAny_alloc' ?_)
  refine wpAny_bind (wpAny_update' h1p ?_)
  refine wpAny_pure ?_
  have hgd : ((s.heap.push { cls := .type "dict", data := .dict #[] }).update x fun o => { cls := o.cls, dict := some s.heap.objs.size, data := o.data, slots := o.slots }).get? s.heap.objs.size = some { cls := .type "dict", data := .dict #[] } :=
    (Heap.get?_update_ne _ _ _ _ hxs.symm).trans (Heap.get?_push_at rfl rfl)
  have hnd : ((s.heap.push { cls := .type "dict", data := .dict #[] }).update x fun o => { cls := o.cls, dict := some s.heap.objs.size, data := o.data, slots := o.slots }).Ns s.heap.objs.size (fun _ => none) :=
    ⟨_, #[], _, hgd, rfl, fun e he => absurd he (by simp), fun _ => rfl⟩
  show wpAny _ _ (Builtin.ObjectAttr.storeInDict s.heap.objs.size (.str f s.toks) f u) _ _ _
  unfold Builtin.ObjectAttr.storeInDict Builtin.ObjectAttr.newKeyGuard
  refine wpAny_bind (wpAny_pure (wpAny_bind (wpAny_nsSet1 (Heap.Ns1.of_empty hnd) fun h' hn' hs => ?_)))
  obtain ⟨oD, esD, epD, hoD, hdD, hcD⟩ := hn'.count (PySem.Within.cons f u PySem.Within.nil)
  refine wpAny_bind (wpAny_lookBehind hoD (by rw [hdD]; exact pastItsLine_dict (Nat.le_trans hcD (by rw [List.length_cons, List.length_nil, sizeLine_eq]; omega))) ?_)
  refine wpAny_pure (h s.heap.objs.size _ (I.hok.fresh (Nat.le_refl _)) ?_)
  have hx' : h'.get? x = some ⟨.ref C, some s.heap.objs.size, .fields vs, osl⟩ := (hs.2 x hxs).trans (Heap.get?_update_self _ h1p rfl)
  have hk : ∀ b ob, b ≠ x → s.heap.get? b = some ob → h'.get? b = some ob := fun b ob hb e => (hs.2 b (Nat.ne_of_lt (Heap.lt_size e))).trans ((Heap.get?_update_ne _ _ _ _ hb).trans (Heap.get?_push_of_some _ e))
  have hfr : oD.isFreed = false := (Heap.get?_some_iff.mp hoD).2
  have hpd : (s.heap.push oD).get? s.heap.objs.size = some oD := Heap.get?_push_size _ hfr
  have xd : XdP s.heap.objs.size [(f, y)] h' := ⟨by show 1 ≤ 1000; decide, _, hn', fun z => by
      rw [List.lookup_cons]
      by_cases e : z = f
      · subst e
        rw [if_pos rfl, show (z == z) = true from beq_self_eq_true z]
        exact ry
      · rw [if_neg e, show (z == f) = false from beq_eq_false_iff_ne.mpr e]
        exact True.intro, fun z hz => by
      by_cases e : z = f
      · rw [e]; exact List.mem_cons_self
      · exact absurd (if_neg e) hz⟩
  have I1 := I.laid (a := s.heap.objs.size) (o := XdO s.heap.objs.size [(f, y)]) (h' := s.heap.push oD) (t' := s.toks) (fun b ob e => Heap.get?_push_of_some _ e) (Nat.le_refl _) (XdO.ok (xd.at fun o e => by rw [hoD] at e; cases e; exact hpd))
  have e1 : upd H s.heap.objs.size (XdO s.heap.objs.size [(f, y)]) x = some (ExcO nw C x none) := by rw [upd_ne hxs]; exact e
  refine I1.write (x := x) (e := x) (by rw [e1]; exact True.intro) (.inl rfl) (fun b ob hb eb => ?_) ⟨_, hx'⟩ (ExcO.ok ⟨_, vs, hx', rfl, rfl, rfl, h5, h6⟩)
  by_cases hbs : b = s.heap.objs.size
  · subst hbs
    rw [hpd] at eb
    cases eb
    exact hoD
  · refine hk b ob hb ?_
    rw [Heap.get?_push_ne _ _ _ hbs] at eb
    exact eb
/-- a further field -/
theorem xset_more {nw : Bool} {C x dx : Addr} {f : Str} {y : V} {u : Value} {fs : List (Str × V)} {Q : Unit → Shared → Prop} (I : Inv X pins σ H s) (e : H x = some (ExcO nw C x (some dx))) (ed : H dx = some (XdO dx fs)) (c : XCls X.K C) (n : NoAttr X.K C f) (hl : fs.length < 1000) (ry : RelV y u)
    (h : ∀ s', Inv X pins σ (upd H dx (XdO dx (putF f y fs))) s' → Q () s') : wpAny (model X.prog X.w) A (setAttr (.ref x) f u) Q E s := by
  obtain ⟨⟨o, vs, h1, h2, h3, h4, h5, h6⟩, _, _⟩ := I.hok x _ e
  obtain ⟨⟨z, mA, hns, r, wi⟩, _, _⟩ := I.hok dx _ ed
  obtain ⟨oq, hoq, _⟩ := lookIn_ns hns
  have J : InstAt s.heap x o C (some oq) := instX h1 h2 h3 h4 fun z e => by subst e; exact hoq
  refine set_plain I.kIn J c.sa (osa_openX (s := { s with toks := s.toks + 1 }) I.kIn J c n fun b => ?_)
  obtain ⟨cd, hc, hd'⟩ := any_some c.hd
  obtain ⟨oc, odi, oda, osl⟩ := o
  dsimp only at h2 h3 h4
  subst h2 h3 h4
  refine wpAny_bind (wpAny_pure (wpAny_bind (wpAny_bind (wpAny_loadPart h1 (wpAny_bind (Looks.here (s := { s with toks := s.toks + 1 }) (looks_clsIn I.kIn hc) ?_))))))
  rw [hd']
  refine wpAny_pure (a := some dx) (wpAny_bind (wpAny_pure (wpAny_bind ?_)))
  refine wpAny_nsSet1 (s := { s with toks := s.toks + 1 }) hns fun h' hn2 hs2 => ?_
  have hz : (fs.map (·.1)).length ≤ sizeLine := by rw [List.length_map, sizeLine_eq]; omega
  obtain ⟨oD, esD, epD, hoD, hdD, hcD⟩ := hn2.count (PySem.Within.cons f u wi)
  refine wpAny_bind (wpAny_lookBehind hoD (by rw [hdD]; exact pastItsLine_dict (Nat.le_trans hcD (by rw [List.length_cons]; omega))) ?_)
  refine wpAny_pure (h _ ?_)
  refine I.write (x := dx) (e := dx) (by rw [ed]; exact True.intro) (.inl rfl) (fun b ob hb eb => (hs2.2 b hb).trans eb) ⟨_, hoD⟩ (XdO.ok ⟨?_, _, hn2, fun g => ?_, fun g hg => ?_⟩)
  · have := length_putF f y fs; omega
  · show RelO ((putF f y fs).lookup g) (if g = f then some u else mA g)
    rw [lookup_putF]
    by_cases q : g = f
    · rw [if_pos q, if_pos q]; exact ry
    · rw [if_neg q, if_neg q]; exact r g
  · by_cases q : g = f
    · rw [q]; exact (keys_putF f y fs).1
    · refine (keys_putF f y fs).2 g (wi g fun z => hg ?_)
      show (if g = f then some u else mA g) = none
      rw [if_neg q]; exact z
end
end L2


namespace L2
open PySem PySem.Spec PyProof.Rows PySem.W SS
structure XGet (K : PySem.W.Frag) (C : Addr) : Prop where
  hd : PySem.W.hasDictIn K C = true
  ga : PySem.W.findIn K (.ref C) "__getattribute__" = some (some (.builtin "BaseException.__getattribute__"))
  gn : PySem.W.findIn K (.ref C) "__getattr__" = some none
  be : PySem.W.mroIn K C (.type "BaseException") = some true
section
variable {prog : Program} {w : World} {A : Around} {E : Value → Shared → Prop} {s : Shared} {K : Frag} {x C : Addr} {ox : Obj} {od : Option Obj} {name : Str} {expr : Bool} {Q : Value → Shared → Prop} {v : Value}
theorem xget_value (X : K.In s.heap) (I : InstAt s.heap x ox C od) (c : XGet K C) (hf : findObj K C od name = some (.value v)) (hh : handedIn v = true) (h : Q v { s with toks := s.toks + 1 }) : wpAny (model prog w) A (getAttr (.ref x) name expr) Q E s := by
  obtain ⟨hh', g, d, t, os⟩ := s
  have L0 := I.type (M := model prog w)
  have L1 := looks_findIn (M := model prog w) X c.ga
  have L2 := looks_findIn (M := model prog w) X c.gn
  have L3 := looks_find (M := model prog w) X I hf
  have sub : Looks (model prog w) hh' (isInstance (.ref x) (.type "BaseException")) true := I.type.andThen (looks_mroIn X c.be)
  unfold getAttr getAttrBy
  refine wpAny_bind (wpAny_mkText (wpAny_holding (wpAny_bind (L0.at (wpAny_bind (L1.at ?_))))))
  have hx1 : (onTheHeap (Value.ref C) && Value.builtin "BaseException.__getattribute__" == Value.builtin "object.__getattribute__") = false := by
    rw [show (Value.builtin "BaseException.__getattribute__" == Value.builtin "object.__getattribute__") = false from by decide +kernel]; rfl
  show wpAny _ _ (if (onTheHeap (Value.ref C) && Value.builtin "BaseException.__getattribute__" == Value.builtin "object.__getattribute__") = true then _ else getAttrByItsOwn (.ref x) (.str name t) (.ref C) (.builtin "BaseException.__getattribute__") true expr) _ _ _
  rw [hx1, if_neg Bool.false_ne_true]
  unfold getAttrByItsOwn hookBefore
  rw [if_pos (show onTheHeap (Value.ref C) = true from rfl)]
  refine wpAny_bind (L2.at ?_)
  have SL := F.attr_ValueError.ga
  unfold callGetattribute
  rw [show (expr && onTheHeap (Value.builtin "BaseException.__getattribute__")) = false from by cases expr <;> rfl, if_neg Bool.false_ne_true]
  refine wpAny_bind (wpAny_attempt (wpAny_holding ?_))
  unfold boundAndCalled
  refine wpAny_bind (wpAny_of_eq (SL.bind (.ref x)) ?_)
  refine wpAny_call (codeAny_call_builtin SL.plain F.entry_bexc_ga (@check_slot (model prog w) _ _ _ "BaseException.__getattribute__" "BaseException" "__getattribute__" (.ref x) [.str name t] [] _ (by decide +kernel) (by decide +kernel) sub (F.args_bexc_ga (.ref x) (.str name t)) ?_))
  unfold Builtin.«object.__getattribute__»
  refine wpAny_bind (wpAny_pure (wpAny_bind (wpAny_pure (wpAny_bind (L0.at (wpAny_bind (L3.at ?_)))))))
  refine wpAny_pure ?_
  show wpAny _ _ (handedOut v) _ _ _
  rw [handedOut_of hh]
  exact wpAny_pure h
end
section
variable {X : Cx} {pins : List (Addr × Obj)} {σ : St} {H : Hp} {s : Shared} {A : Around} {E : Value → Shared → Prop}
/-- a field of an error -/
theorem xget_ok {nw : Bool} {C x dx : Addr} {f : Str} {v : V} {fs : List (Str × V)} {b : Bool} {Q : Value → Shared → Prop} (I : Inv X pins σ H s) (e : H x = some (ExcO nw C x (some dx))) (ed : H dx = some (XdO dx fs)) (c : XGet X.K C) (n : NoAttr X.K C f) (l : fs.lookup f = some v)
    (h : ∀ u s', Inv X pins σ H s' → RelV v u → Q u s') : wpAny (model X.prog X.w) A (getAttr (.ref x) f b) Q E s := by
  obtain ⟨⟨o, vs, h1, h2, h3, h4, h5, h6⟩, _, _⟩ := I.hok x _ e
  obtain ⟨⟨z, mA, hns, r, wi⟩, _, _⟩ := I.hok dx _ ed
  obtain ⟨oq, hoq, hl⟩ := lookIn_ns hns
  have J : InstAt s.heap x o C (some oq) := instX h1 h2 h3 h4 fun z e => by subst e; exact hoq
  obtain ⟨u, hu, ru⟩ := RelO.some_of (v := v) (o := mA f) (by rw [← l]; exact r f)
  exact xget_value I.kIn J c (findObj_own c.hd n rfl (by rw [hl, hu])) (handed_of ru) (h u _ (I.tok _) ru)
end
section
variable {X : Cx} {e o value : Expr} {ta tv : TE} {f : Str} {pos pos' : Pos}
def tXFld (K : PySem.W.Frag) (ta : TE) (f : Str) : TE := fun σ H Q => ta σ H fun x H1 => ∃ a nw C dx fs v, x = .ref a ∧ H1 a = some (ExcO nw C a (some dx)) ∧ H1 dx = some (XdO dx fs) ∧ XGet K C ∧ NoAttr K C f ∧ fs.lookup f = some v ∧ Q v H1
theorem pe_xfld (he : PE X e ta) (hb : attributeBase e f X.env (eval e X.env) = eval e X.env) : PE X (.Attribute e f pos) (tXFld X.K ta f) := by
  intro pins s σ H Q I h
  refine attr_of hb (thn (he pins s σ H _ I h) fun u s1 ⟨x, H1, I1, rx, a, nw, C, dx, fs, v, ex, ea, ed, c, n, l, q⟩ => ?_)
  subst ex
  obtain rfl : u = Value.ref a := rx
  exact xget_ok I1 ea ed c n l fun u' s2 I2 ru => ⟨v, H1, I2, ru, q⟩
def sXFld (K : PySem.W.Frag) (ta tv : TE) (f : Str) : TS := fun D σ H => tv σ H fun y H1 => ta σ H1 fun x H2 => ∃ a nw C, x = .ref a ∧ XCls K C ∧ NoAttr K C f ∧
  ((H2 a = some (ExcO nw C a none) ∧ ∀ dx, H2 dx = none → D.nx σ (upd (upd H2 dx (XdO dx [(f, y)])) a (ExcO nw C a (some dx)))) ∨
    ∃ dx fs, H2 a = some (ExcO nw C a (some dx)) ∧ H2 dx = some (XdO dx fs) ∧ fs.length < 1000 ∧ D.nx σ (upd H2 dx (XdO dx (putF f y fs))))
theorem ps_xfld (ha : PE X o ta) (hv : PE X value tv) (hs : swapsWith value (some (.Attribute o f pos')) pos.line X.env = pure false) : PS X (.Assign [.Attribute o f pos'] value pos) (sXFld X.K ta tv f) := by
  intro pins s σ H D I h
  refine plainObj_wpAny_Assign_Attribute (thn (hv pins s σ H _ I h) fun u s1 ⟨y, H1, I1, ry, q⟩ => thn (ha pins s1 σ H1 _ I1 q) fun ov s2 ⟨x, H2, I2, rx, a, nw, C, ex, c, n, q2⟩ => ?_) hs
  subst ex
  obtain rfl : ov = Value.ref a := rx
  rcases q2 with ⟨ea, q2⟩ | ⟨dx, fs, ea, ed, l, q2⟩
  · exact xset_first I2 ea c n ry fun dx s3 hd I3 => ⟨σ, _, I3, q2 dx hd⟩
  · exact xset_more I2 ea ed c n l ry fun s3 I3 => ⟨σ, _, I3, q2⟩
end
end L2


namespace L2
open PySem PySem.Spec PyProof.Rows PySem.W SS
/-- a trace entry -/
def Tr (h : Heap) (T : Addr) (fl : Value) : Prop := ∃ oT ts, h.get? T = some oT ∧ oT.data = .fields ts ∧ ts[3]? = some fl
def tbV : Option Addr → Value
  | none => .none
  | some T => .ref T
section
variable {M : Model} {A : Around} {E : Value → Shared → Prop} {s : Shared}
/-- the frame's entry is laid upon the trace -/
theorem entryX {base : Heap} {env : Env} {outer : List Env} {L x : Addr} {o : Obj} {vs : Array Value} {head : Value} {hadNext : Bool} {Q : Unit → Shared → Prop}
    (hfr : A.frames = some (env :: outer)) (hl : s.heap.FunFrames base (env :: outer)) (hf : env.frame = some L) (he : s.heap.get? x = some o) (hd : o.data = .fields vs) (hsz : 1 < vs.size)
    (h : ∀ h' T', s.heap.get? T' = none → s.heap.objs.size ≤ T' → h'.get? x = some (Obj.mapFields (·.setIfInBounds 1 (.ref T')) o) → Tr h' T' (rawInt L) → (∀ b ob, b ∉ frs (env :: outer) → b ≠ x → s.heap.get? b = some ob → h'.get? b = some ob) →
      (∀ b ob, b ≠ x → s.heap.get? b = some ob → ∃ sl, h'.get? b = some { ob with slots := sl }) → Q () { s with heap := h' }) :
    wpAny M A (do let a ← frameOf env; let pl ← entryPlaceOf L hadNext; let b ← EntryCells.newEntry head a .none (rawInt L) .none pl; setField (.ref x) 1 b) Q E s := by
  have hene : x ∉ (env :: outer).filterMap (·.frame) := fun hm => by
    obtain ⟨_, o', ho, hnf⟩ := hl.mem hm
    rw [he] at ho; injection ho with ho; subst ho; exact hnf vs hd
  refine wpAny_bind (wpAny_frameOf_fun hfr hl hf fun h1 hs1 => ?_)
  refine wpAny_bind (wpAny_entryPlaceOf fun pl hpl => ?_)
  unfold EntryCells.newEntry newFields
  refine wpAny_bind (wpAny_newObj_type ?_ (hpl.sizeOk5 _ _ _ _ _))
  have he1 : h1.get? x = some o := (hs1.2.1 x hene).trans he
  have he2 := Heap.get?_push_of_some (h := h1) { cls := .type "traceback", dict := none, data := .fields ([head, .ref L, .none, rawInt L, .none] ++ (if pl.isEmpty then List.replicate 6 Value.none else pl)).toArray } he1
  refine wpAny_setField he2 hd hsz ?_
  have hTe : h1.objs.size ≠ x := Nat.ne_of_gt (Heap.lt_size he1)
  have hd3 := Obj.data_mapFields hd (·.setIfInBounds 1 (Value.ref h1.objs.size))
  have he3 := Heap.get?_update_self (Obj.mapFields (·.setIfInBounds 1 (Value.ref h1.objs.size))) he2 (Obj.isFreed_of_fields hd3)
  have hT3 := (Heap.get?_update_other (h1.push { cls := .type "traceback", dict := none, data := .fields ([head, .ref L, .none, rawInt L, .none] ++ (if pl.isEmpty then List.replicate 6 Value.none else pl)).toArray })
    (Obj.mapFields (·.setIfInBounds 1 (Value.ref h1.objs.size))) (Ne.symm hTe)).trans (Heap.get?_push_size h1 rfl)
  have keep : ∀ b ob, b ≠ x → h1.get? b = some ob →
      ((h1.push { cls := .type "traceback", dict := none, data := .fields ([head, .ref L, .none, rawInt L, .none] ++ (if pl.isEmpty then List.replicate 6 Value.none else pl)).toArray }).update x (Obj.mapFields (·.setIfInBounds 1 (Value.ref h1.objs.size)))).get? b = some ob :=
    fun b ob hbe hb => by
      rw [Heap.get?_update_other _ _ (Ne.symm hbe)]
      exact Heap.get?_push_of_some _ hb
  have hT0 : s.heap.get? h1.objs.size = none := by
    cases q : s.heap.get? h1.objs.size with
    | none => rfl
    | some ob =>
      obtain ⟨sl, hs⟩ := hs1.2.2 _ _ q
      exact absurd (Heap.lt_size hs) (Nat.lt_irrefl _)
  refine h _ h1.objs.size hT0 (Nat.le_of_eq hs1.1.symm) he3 ⟨_, _, hT3, rfl, ?_⟩ (fun b ob hb hbe e => keep b ob hbe ((hs1.2.1 b hb).trans e)) fun b ob hbe e => ?_
  · first | (simp; done) | (rcases hpl with rfl | ⟨_, _, _, _, _, _, _, rfl⟩ <;> simp)
  · obtain ⟨sl, hs⟩ := hs1.2.2 b ob e
    exact ⟨sl, keep b _ hbe hs⟩
theorem noteX {base : Heap} {env : Env} {outer : List Env} {L x : Addr} {o : Obj} {vs : Array Value} {tb : Option Addr} {Q : Unit → Shared → Prop}
    (hfr : A.frames = some (env :: outer)) (hl : s.heap.FunFrames base (env :: outer)) (hf : env.frame = some L) (he : s.heap.get? x = some o) (hd : o.data = .fields vs) (h1 : vs[1]? = some (tbV tb)) (ht : ∀ T, tb = some T → Tr s.heap T .none ∧ T ≠ x)
    (h : ∀ h' T', s.heap.get? T' = none → s.heap.objs.size ≤ T' → T' ≠ x → h'.get? x = some (Obj.mapFields (·.setIfInBounds 1 (.ref T')) o) → Tr h' T' (rawInt L) → (∀ b ob, b ∉ frs (env :: outer) → b ≠ x → tb ≠ some b → s.heap.get? b = some ob → h'.get? b = some ob) →
      (∀ b ob, b ≠ x → tb ≠ some b → s.heap.get? b = some ob → ∃ sl, h'.get? b = some { ob with slots := sl }) → (∀ T, tb = some T → ∃ ob, h'.get? T = some ob) → Q () { s with heap := h' }) :
    wpAny M A (noteFrame (.ref x) env) Q E s := by
  have hsz : 1 < vs.size := (Array.getElem?_eq_some_iff.mp h1).1
  unfold noteFrame
  simp only [hf]
  refine wpAny_bind (wpAny_field he hd h1 ?_)
  cases tb with
  | none =>
    show wpAny M A (if (Value.none != Value.none) = true then _ else _) Q E s
    rw [if_neg (by decide)]
    refine entryX hfr hl hf he hd hsz fun h' T' t0 tz hx tr kp sl => ?_
    have hTx : T' ≠ x := fun e => by rw [e, he] at t0; cases t0
    exact h h' T' t0 tz hTx hx tr (fun b ob hb hbx _ e => kp b ob hb hbx e) (fun b ob hbx _ e => sl b ob hbx e) (fun T e => by cases e)
  | some T =>
    obtain ⟨⟨oT, ts, hT, hdT, h3⟩, hTx⟩ := ht T rfl
    show wpAny M A (if (Value.ref T != Value.none) = true then _ else _) Q E s
    rw [if_pos (show (Value.ref T != Value.none) = true from by simp)]
    refine wpAny_bind (wpAny_field hT hdT h3 ?_)
    rw [if_neg (show ¬ ((Value.none == rawInt L) = true) from by simp [rawInt])]
    refine wpAny_bind (wpAny_setField hT hdT (Array.getElem?_eq_some_iff.mp h3).1 ?_)
    have other : ∀ b, b ≠ T → (s.heap.update T (Obj.mapFields (·.setIfInBounds 3 Value.none))).get? b = s.heap.get? b := fun b hb => Heap.get?_update_other _ _ (Ne.symm hb)
    have noRecord : ∀ b ob, s.heap.get? b = some ob → (∀ vs, ob.data ≠ .fields vs) → b ≠ T := fun b ob hb hnf q => by
      rw [q, hT] at hb; injection hb with hb; subst hb; exact hnf ts hdT
    have hTn := Heap.get?_update_self (Obj.mapFields (·.setIfInBounds 3 Value.none)) hT (Obj.isFreed_of_fields (Obj.data_mapFields hdT _))
    refine entryX (s := { s with heap := s.heap.update T (Obj.mapFields (·.setIfInBounds 3 Value.none)) }) hfr (hl.of_keeps fun b ob hb hnf => ⟨ob, (other b (noRecord b ob hb hnf)).trans hb, rfl⟩) hf ((other x (Ne.symm hTx)).trans he) hd hsz fun h' T' t0 tz hx tr kp sl => ?_
    have hT'T : T' ≠ T := fun e => by
      have t0 : (s.heap.update T (Obj.mapFields (·.setIfInBounds 3 Value.none))).get? T' = none := t0
      rw [e, hTn] at t0; cases t0
    have t0' : s.heap.get? T' = none := by rw [← other T' hT'T]; exact t0
    have hTx' : T' ≠ x := fun e => by rw [e, he] at t0'; cases t0'
    refine h h' T' t0' (by rw [Heap.size_update] at tz; exact tz) hTx' hx tr (fun b ob hb hbx ht e => kp b ob hb hbx ((other b (fun q => ht (by rw [q]))).trans e)) (fun b ob hbx ht e => sl b ob hbx ((other b (fun q => ht (by rw [q]))).trans e)) fun T2 e => ?_
    cases e
    obtain ⟨sl', e'⟩ := sl T _ hTx hTn
    exact ⟨_, e'⟩
/-- the flight's mark is taken off -/
theorem flightX {x T : Addr} {o : Obj} {vs : Array Value} {fl : Value} {Q : Unit → Shared → Prop} (he : s.heap.get? x = some o) (hd : o.data = .fields vs) (h1 : vs[1]? = some (.ref T)) (ht : Tr s.heap T fl) 
    (h : ∀ h', Tr h' T .none → (∀ b, b ≠ T → h'.get? b = s.heap.get? b) → Q () { s with heap := h' }) : wpAny M A (setFlight (.ref x) none) Q E s := by
  obtain ⟨oT, ts, hT, hdT, h3⟩ := ht
  have hsz3 : 3 < ts.size := (Array.getElem?_eq_some_iff.mp h3).1
  unfold setFlight
  refine wpAny_bind (wpAny_field he hd h1 ?_)
  rw [if_pos (show (Value.ref T != Value.none) = true from by simp)]
  refine wpAny_setField hT hdT hsz3 (h _ ⟨_, _, Heap.get?_update_self _ hT (Obj.isFreed_of_fields (Obj.data_mapFields hdT _)), Obj.data_mapFields hdT _, by simp [hsz3]⟩ fun b hb => Heap.get?_update_other _ _ (Ne.symm hb))
end
end L2


namespace L2
open PySem PySem.Spec PyProof.Rows PySem.W SS
/-- an own error class with an own __init__ -/
def excInI (K : Frag) (C fI : Addr) (bmB : List Value) (newId : String) : Bool := match K.lookup C with
  | some ⟨.type "type", _, .cls cd, sl⟩ => (match cd.mro, sl.toList with
    | .ref C' :: bm, [_, _, _, _, some (.builtin n), _] => C' == C && n == newId && !cd.hasDel && tailIn K bmB bm && nsOkIn K cd.ns && nsIn K cd.ns "__init__" == some (some (.ref fI))
    | _, _ => false)
  | _ => false
theorem nsMap_some_of_in {K : Frag} {h : Heap} {N : Addr} {x : Str} {v : Value} (X : K.In h) (e : nsOkIn K N = true) (q : nsIn K N x = some (some v)) : h.nsMap N x = some v := by
  have G : h.Ns N (h.nsMap N) := .of_isNs (isNs_of_in X e)
  obtain ⟨o, es, ep, ho, hd, _, hf⟩ := G
  unfold nsIn at q
  split at q
  · rename_i c d es' n' sl hq
    have := X _ _ hq
    rw [ho] at this
    cases this
    cases hd
    split at q
    · rename_i en he
      rw [← hf]
      unfold nsFind findBy
      rw [← Array.find?_toList, he]
      injection q
    · split at q
      · cases q
      · injection q with q
        cases q
  · cases q
structure XMk (K : Frag) (C fI : Addr) : Prop where
  cls : ∃ bmB newId B Bn inN bmN, excInI K C fI bmB newId = true ∧ ExcBaseFacts Bn newId inN bmN ∧ bmB.contains (.type Bn) = true ∧ XLine B bmB
  fn : PySem.W.isFn K (.ref fI) = true
  kp : PySem.W.keepIn K (.ref C) = true
section
variable {K : Frag} {h : Heap} {C fI : Addr} {bmB : List Value} {newId : String}
theorem own_of_inI (X : K.In h) (q : excInI K C fI bmB newId = true) : ∃ bm N nm qn bs hdct sn sub ab col dd k0 k1 k2 k3 k5 mN, h.get? C = some (excClassObj nm qn C N bs bm hdct sn sub ab col dd k0 k1 k2 k3 k5 newId) ∧ h.Ns N mN ∧ mN "__init__" = some (.ref fI) ∧ OwnTail h bmB bm := by
  unfold excInI at q
  split at q
  · rename_i dd cd sl ho
    split at q
    · rename_i C' bm k0 k1 k2 k3 n k5 hm hs
      simp only [Bool.and_eq_true, beq_iff_eq, Bool.not_eq_true'] at q
      obtain ⟨⟨⟨⟨⟨rfl, rfl⟩, hdel⟩, ht⟩, hok⟩, hni⟩ := q
      obtain ⟨nm, bs, mro, ns, qn, hd, sn, sub, ab, col, del⟩ := cd
      dsimp only at hm hdel hok hni
      subst hm hdel
      have hsl : sl = #[k0, k1, k2, k3, some (.builtin n), k5] := by
        obtain ⟨l⟩ := sl
        simp only at hs
        rw [hs]
      subst hsl
      exact ⟨bm, ns, nm, qn, bs, hd, sn, sub, ab, col, dd, k0, k1, k2, k3, k5, _, X _ _ ho, .of_isNs (isNs_of_in X hok), nsMap_some_of_in X hok hni, tail_of_in X ht⟩
    · cases q
  · cases q
end
section
variable {X : Cx} {CX : CXT} {k : Nat} {C f : Addr} {fd : FuncData} {ps : List Str} {sp : Sp} {x : Str} {p pos : Pos} {e : Expr} {es : List Expr} {t : TA}
theorem run_xmake {pins : List (Addr × Obj)} {σ : St} {H : Hp} {s : Shared} {Q : VK} {us : List Value} {vs : List V} (M : XMk X.K C f) (F : FnOk X.prog X.w X.K X.mg X.base CX0 k f fd ps sp) (hr : Room (k + 1) X.A) (hb : Binds X.K fd ps [])
    (I : Inv X pins σ H s) (r : Vals vs us) (hz : us.length ≤ 100)
    (h : ∀ x, H x = none → sp (.ref x :: vs) (upd H x (ExcO true C x none)) (fun v H2 => v = .non ∧ Q (.ref x) H2) E0) :
    wpAny (model X.prog X.w) X.A (call (.ref C) us) (EP X pins σ Q) X.xe s := by
  obtain ⟨bmB, newId, B, Bn, inN, bmN, q, Fn, hBn, Fb⟩ := M.cls
  obtain ⟨bm, N, nm, qn, bs, hdct, sn, sub, ab, col, dd, k0, k1, k2, k3, k5, mN, hC, hN, hi, T⟩ := own_of_inI I.kIn q
  have hq := h (s.heap.objs.size + 1) (I.hok.fresh (Nat.le_succ _))
  have I1 : Inv X pins σ H { s with heap := s.heap.push { cls := .type "tuple", data := .seq us.toArray } } := I.kept (t' := s.toks) fun b u e => Heap.get?_push_of_some _ e
  have hget : ((s.heap.push { cls := .type "tuple", data := .seq us.toArray }).push { cls := .ref C, data := .fields #[.ref s.heap.objs.size, .none, .none, .none, .bool false, .none] }).get? (s.heap.objs.size + 1) = some
      { cls := .ref C, data := .fields #[.ref s.heap.objs.size, .none, .none, .none, .bool false, .none] } := by
    have := Heap.get?_push_size (s.heap.push { cls := .type "tuple", data := .seq us.toArray }) (o := { cls := .ref C, data := .fields #[.ref s.heap.objs.size, .none, .none, .none, .bool false, .none] }) rfl
    rwa [Heap.size_push] at this
  have I2 := I1.laid (a := s.heap.objs.size + 1) (o := ExcO true C (s.heap.objs.size + 1) none) (h' := (s.heap.push { cls := .type "tuple", data := .seq us.toArray }).push { cls := .ref C, data := .fields #[.ref s.heap.objs.size, .none, .none, .none, .bool false, .none] }) (t' := s.toks) (fun b u e => Heap.get?_push_of_some _ e) (Nat.le_of_eq (Heap.size_push _ _)) (ExcO.ok ⟨_, _, hget, rfl, rfl, rfl, (by show 1 < 6; decide), fun _ => ⟨_, rfl⟩⟩)
  have r2 : Vals (V.ref (s.heap.objs.size + 1) :: vs) (Value.ref (s.heap.objs.size + 1) :: us) := .cons rfl r
  have hl : (Value.ref (s.heap.objs.size + 1) :: us).length = ps.length := by
    have e := r2.length
    rw [F.len _ _ _ _ hq] at e
    exact e.symm
  obtain ⟨oI, hoI, hfc⟩ : ∃ oI, s.heap.get? f = some oI ∧ oI.cls = .type "function" := by
    have hfn := beq_iff_eq.mp M.fn
    obtain ⟨oo, ho, hc⟩ := Option.map_eq_some_iff.mp (show (X.K.lookup f).map (·.cls) = some (.type "function") from hfn)
    exact ⟨oo, I.kIn _ _ ho, hc⟩
  obtain ⟨hh, g, d, tk, os⟩ := s
  refine call_initU Fn hBn Fb T hC hN hi hoI hfc ?_ (Nat.le_trans hz (by decide))
  have hb' := hb _ (Value.ref (hh.objs.size + 1) :: us) I2.kIn (by simpa using hl)
  rw [List.append_nil] at hb'
  refine wpAny_call (codeAny_mono (F.run _ X.stack _ _ ⟨Value.ref (hh.objs.size + 1) :: us, []⟩ (Value.ref (hh.objs.size + 1) :: us) _ _ E0 (hr.make C us []) (I2.env0.make C us []) hb' r2 hq) fun r s' hq' => ?_)
  cases r with
  | error e => exact False.elim hq'
  | ok fl =>
    cases fl with
    | ret u =>
      obtain ⟨v, H', I3, rv, ev, q3⟩ := I2.after hq'
      subst ev
      exact ⟨rv, ⟨V.ref (hh.objs.size + 1), H', I3, rfl, q3⟩⟩
    | next => exact False.elim hq'
    | brk => exact False.elim hq'
    | cont => exact False.elim hq'
end
end L2
namespace L2
open PySem PySem.Spec PyProof.Rows PySem.W SS
/-- an own error class, whatever it has -/
def excC (K : Frag) (C : Addr) : Bool := match K.lookup C with
  | some ⟨.type "type", _, .cls cd, sl⟩ => (match cd.mro, sl.toList with
    | .ref C' :: bm, [_, _, _, _, some (.builtin _), _] => C' == C && !cd.hasDel && bm.contains (.type "BaseException")
    | _, _ => false)
  | _ => false
theorem excC_obj {K : Frag} {h : Heap} {C : Addr} (X : K.In h) (q : excC K C = true) : ∃ bm N nm qn bs hdct sn sub ab col dd k0 k1 k2 k3 k5 newId, h.get? C = some (excClassObj nm qn C N bs bm hdct sn sub ab col dd k0 k1 k2 k3 k5 newId) ∧ bm.contains (.type "BaseException") = true := by
  unfold excC at q
  split at q
  · rename_i dd cd sl ho
    split at q
    · rename_i C' bm k0 k1 k2 k3 n k5 hm hs
      simp only [Bool.and_eq_true, beq_iff_eq, Bool.not_eq_true'] at q
      obtain ⟨⟨rfl, hdel⟩, hb⟩ := q
      obtain ⟨nm, bs, mro, ns, qn, hd, sn, sub, ab, col, del⟩ := cd
      dsimp only at hm hdel
      subst hm hdel
      have hsl : sl = #[k0, k1, k2, k3, some (.builtin n), k5] := by
        obtain ⟨l⟩ := sl
        simp only at hs
        rw [hs]
      subst hsl
      exact ⟨bm, ns, nm, qn, bs, hd, sn, sub, ab, col, dd, k0, k1, k2, k3, k5, n, X _ _ ho, hb⟩
    · cases q
  · cases q
theorem tailIn_has {K : Frag} {bmB : List Value} {v : Value} (hv : bmB.contains v = true) : ∀ {l : List Value}, tailIn K bmB l = true → l.contains v = true
  | [], e => by
    unfold tailIn at e
    rw [beq_iff_eq.mp e] at hv
    exact hv
  | u :: r, e => by
    unfold tailIn at e
    rcases Bool.or_eq_true_iff.mp e with e | e
    · rw [beq_iff_eq.mp e]; exact hv
    · split at e
      · split at e
        · simp only [Bool.and_eq_true] at e
          rw [List.contains_cons, tailIn_has hv e.2, Bool.or_true]
        · cases e
      · cases e
theorem XMk.ec {K : Frag} {C f : Addr} (M : XMk K C f) : excC K C = true := by
  obtain ⟨bmB, newId, B, Bn, inN, bmN, q, Fn, hBn, Fb⟩ := M.cls
  unfold excInI at q
  unfold excC
  split at q
  · rename_i dd cd sl ho
    split at q
    · rename_i C' bm k0 k1 k2 k3 n k5 hm hs
      simp only [Bool.and_eq_true, beq_iff_eq, Bool.not_eq_true'] at q
      obtain ⟨⟨⟨⟨⟨e1, e2⟩, hdel⟩, ht⟩, hok⟩, hni⟩ := q
      simp only [ho, hm, hs, e1, hdel, tailIn_has Fb.base ht, BEq.rfl, Bool.not_false, Bool.and_self]
    · cases q
  · cases q
/-- an own error class without an own __init__ -/
structure XMk0 (K : Frag) (C : Addr) : Prop where
  cls : ∃ bmB newId B nid initId Bn inN bmN, excIn K C bmB newId = true ∧ ExcBaseFacts Bn newId inN bmN ∧ bmB.contains (.type Bn) = true ∧ ExcBaseFacts B nid initId bmB
  kp : PySem.W.keepIn K (.ref C) = true
theorem own_of_in0 {K : Frag} {h : Heap} {C : Addr} {bmB : List Value} {newId : String} (X : K.In h) (q : excIn K C bmB newId = true) : ∃ bm N nm qn bs hdct sn sub ab col dd k0 k1 k2 k3 k5 mN, h.get? C = some (excClassObj nm qn C N bs bm hdct sn sub ab col dd k0 k1 k2 k3 k5 newId) ∧ h.Ns N mN ∧ mN "__init__" = none ∧ OwnTail h bmB bm := by
  unfold excIn at q
  split at q
  · rename_i dd cd sl ho
    split at q
    · rename_i C' bm k0 k1 k2 k3 n k5 hm hs
      simp only [Bool.and_eq_true, beq_iff_eq, Bool.not_eq_true'] at q
      obtain ⟨⟨⟨⟨⟨rfl, rfl⟩, hdel⟩, ht⟩, hok⟩, hni⟩ := q
      obtain ⟨nm, bs, mro, ns, qn, hd, sn, sub, ab, col, del⟩ := cd
      dsimp only at hm hdel hok hni
      subst hm hdel
      have hsl : sl = #[k0, k1, k2, k3, some (.builtin n), k5] := by
        obtain ⟨l⟩ := sl
        simp only at hs
        rw [hs]
      subst hsl
      exact ⟨bm, ns, nm, qn, bs, hd, sn, sub, ab, col, dd, k0, k1, k2, k3, k5, _, X _ _ ho, .of_isNs (isNs_of_in X hok), nsMap_none_of_in X hok hni, tail_of_in X ht⟩
    · cases q
  · cases q
theorem XMk0.ec {K : Frag} {C : Addr} (M : XMk0 K C) : excC K C = true := by
  obtain ⟨bmB, newId, B, nid, initId, Bn, inN, bmN, q, Fn, hBn, Fb⟩ := M.cls
  unfold excIn at q
  unfold excC
  split at q
  · rename_i dd cd sl ho
    split at q
    · rename_i C' bm k0 k1 k2 k3 n k5 hm hs
      simp only [Bool.and_eq_true, beq_iff_eq, Bool.not_eq_true'] at q
      obtain ⟨⟨⟨⟨⟨e1, e2⟩, hdel⟩, ht⟩, hok⟩, hni⟩ := q
      simp only [ho, hm, hs, e1, hdel, tailIn_has Fb.hasBase ht, BEq.rfl, Bool.not_false, Bool.and_self]
    · cases q
  · cases q
/-! laid at a place where nothing is -/
section
variable {P : Program} {w : World} {H : Hp} {h h' : Heap} {a : Addr} {o : HO} {fs ex : List Addr}
theorem ObjOk.there (x : ObjOk P w H h a o) : ∃ u, h.get? a = some u := by
  cases o with
  | lst xs => obtain ⟨_, _, _, _, e⟩ := x; exact ⟨_, e⟩
  | tup xs => obtain ⟨_, _, _, p⟩ := x; exact p.imp fun u q => q.1
  | dK kvs => obtain ⟨_, _, _, _, o, _, _, e, _⟩ := x; exact ⟨_, e⟩
  | dT kvs => obtain ⟨_, _, _, _, o, _, _, e, _⟩ := x; exact ⟨_, e⟩
  | set S n => obtain ⟨o, _, _, _, e, _⟩ := x; exact ⟨_, e⟩
  | ins C dx fs => obtain ⟨_, _, _, e, _⟩ := x; exact ⟨_, e⟩
  | own y => exact x
  | xd fs => obtain ⟨_, ⟨_, _, _, e, _⟩, _⟩ := x; exact ⟨_, e⟩
  | rng lo hi => obtain ⟨_, _, _, e⟩ := x; exact ⟨_, e⟩
  | frz ob u => obtain ⟨e, _⟩ := x; exact ⟨_, e⟩
  | tbl ps => exact ⟨_, x⟩
  | met f y => exact ⟨_, x⟩
  | ext φ => exact x.2.1
theorem HOk.freshN (x : HOk P w H h) (e : h.get? a = none) : H a = none := by
  cases q : H a with
  | none => rfl
  | some u =>
    obtain ⟨v, hv⟩ := (x a u q).there
    rw [e] at hv; cases hv
theorem HOk.laidN (x : HOk P w H h) (k : ∀ b u, h.get? b = some u → h'.get? b = some u) (e : h.get? a = none) (new : ObjOk P w (upd H a o) h' a o) : HOk P w (upd H a o) h' := fun b u q => by
  have hn := x.freshN e
  by_cases hb : b = a
  · subst hb; rw [upd_same] at q; cases q; exact new
  · rw [upd_ne hb] at q
    exact (x b u q).stay (fun c v _ z => k c v z) (fun c z => by rw [upd_ne (ne_of_none z hn)]; exact z) fun c xs z => by rw [upd_ne (ne_of_none z hn)]; exact z
theorem Un.laidN (k : ∀ b u, h.get? b = some u → h'.get? b = some u) (e : h.get? a = none) (hn : H a = none) : Un fs ex H (upd H a o) h h' where
  keep := fun b u q _ _ _ => k b u q
  slot := fun b u q _ _ _ => ⟨u.slots, k b u q⟩
  free := fun b u q n _ => by rw [upd_ne (fun z => by rw [z, e] at q; cases q)]; exact n
  there := fun b u q _ => ⟨u, k b u q⟩
  tups := fun b xs q => by rw [upd_ne (ne_of_none q hn)]; exact q
  frzs := fun b u xs q => by rw [upd_ne (ne_of_none q hn)]; exact q
  tbls := fun b ps q => ⟨#[], by rw [upd_ne (ne_of_none q hn), q]; simp⟩
theorem Inv.laidN {X : Cx} {pins : List (Addr × Obj)} {σ : St} {s : Shared} {t' : Nat} (I : Inv X pins σ H s) (k : ∀ b u, s.heap.get? b = some u → h'.get? b = some u) (e : s.heap.get? a = none) (new : ObjOk X.prog X.w (upd H a o) h' a o) :
    Inv X pins σ (upd H a o) { s with heap := h', toks := t' } := I.un (Un.laidN k e (I.hok.freshN e)) (I.hok.laidN k e new)
end
def tXMake0 (C : Addr) : TE := fun σ H Q => ∀ x, H x = none → Q (.ref x) (upd H x (ExcO true C x none))
theorem pe_xmake0 {X : Cx} {C : Addr} {x : Str} {p pos : Pos} (M : XMk0 X.K C) (hg : Gl X x) (hm : X.mg x = some (.ref C)) (hdb : (x == ("__debug__" : Str)) = false := by decide) : PE X (.Call (.Name x p) [] [] pos) (tXMake0 C) := by
  intro pins s σ H Q I h
  refine wpAny_Call_Name_kw (ld_glob I hg hm ?_ hdb)
  refine PySem.W.callWith_K0 I.kIn M.kp ?_
  obtain ⟨bmB, newId, B, nid, initId, Bn, inN, bmN, q, Fn, hBn, Fb⟩ := M.cls
  obtain ⟨bm, N, nm, qn, bs, hdct, sn, sub, ab, col, dd, k0, k1, k2, k3, k5, mN, hC, hN, hi, T⟩ := own_of_in0 I.kIn q
  obtain ⟨hh, g, d, tk, os⟩ := s
  refine wpAny_call_exc_subU Fn hBn Fb T hC hN hi (fun h' e hm => ?_) (by decide)
  obtain ⟨t, ht, _, _⟩ := hm.there
  have I2 := I.laidN (a := e) (o := ExcO true C e none) (h' := h') (t' := tk) hm.keeps hm.new (ExcO.ok ⟨_, _, ht, rfl, rfl, rfl, (by show 1 < 6; decide), fun _ => ⟨_, rfl⟩⟩)
  exact ⟨.ref e, _, I2, rfl, h e (I.hok.freshN hm.new)⟩
end L2


namespace L2
open PySem PySem.Spec PyProof.Rows PySem.W SS
/-- the error flies: its trace, of which nobody knew at h0 -/
def Fly (h0 h : Heap) (H : Hp) (x : Addr) (tb : Option Addr) : Prop := ∃ o vs, h.get? x = some o ∧ o.data = .fields vs ∧ vs[1]? = some (tbV tb) ∧ ∀ T, tb = some T → Tr h T .none ∧ T ≠ x ∧ H T = none ∧ h0.objs.size ≤ T
end L2
namespace L2
open PySem PySem.Spec PyProof.Rows PySem.W SS
section
variable {M : Model} {A : Around} {E : Value → Shared → Prop} {s : Shared} {env : Env}
theorem raiseX {x : Sem Value} {Q : Flow → Shared → Prop} (hh : A.handled = none)
    (h : wpAny M A x (fun v s1 => ∃ (e t : Addr) (od : Option Addr) (sl : Array (Option Value)) (C N : Addr) (nm q : Str) (bs bm : List Value) (hdct : Bool) (sn : List Str) (sub : List Value) (ab : Bool) (col : Option Bool) (dd : Option Addr) (k0 k1 k2 k3 k5 : Option Value) (newId : String), v = .ref e ∧ bm.contains (.type "BaseException") = true ∧ s1.heap.get? C = some (excClassObj nm q C N bs bm hdct sn sub ab col dd k0 k1 k2 k3 k5 newId) ∧
      s1.heap.get? e = some ⟨.ref C, od, .fields #[.ref t, .none, .none, .none, .bool false, .none], sl⟩ ∧ E (.ref e) s1) E s) :
    wpAny M A (raiseStmt env (some x) none) Q E s := by
  unfold raiseStmt
  refine wpAny_bind (wpAny_mono h (fun v s1 h1 => ?_) fun _ _ x => x)
  obtain ⟨e, t, od, sl, C, N, nm, q, bs, bm, hdct, sn, sub, ab, col, dd, k0, k1, k2, k3, k5, newId, rfl, hbase, hC, he, hE⟩ := h1
  have hcB : (Value.ref C :: bm).contains (.type "BaseException") = true := by rw [List.contains_cons, hbase, Bool.or_true]
  obtain ⟨hp, g, d, tk, os⟩ := s1
  repeat (first | with_reducible refine wpAny_loadPart_at he ?_ | with_reducible refine wpAny_loadPart_at hC ?_ | (with_reducible refine wpAny_isSubtype_exc hC ?_; rw [hcB]) | wp_step)
  exact wpAny_raiseNew_none hh hE
end
section
variable {X : Cx} {e : Expr} {te : TE} {pos : Pos} {E : XK}
end
end L2


namespace L2
open PySem PySem.Spec PyProof.Rows PySem.W SS
/-- the end by an error -/
def XEnd (X : Cx) (pins : List (Addr × Obj)) (σ : St) (E : XK) (ev : Value) (s' : Shared) : Prop := ∃ (x C : Addr) (od : Option Addr) (H' : Hp) (tb : Option Addr), ev = .ref x ∧ Inv X pins σ H' s' ∧ H' x = some (ExcO false C x od) ∧ Fly X.s_0.heap s'.heap H' x tb ∧ (∀ p ∈ X.pn ++ pins, ∀ T, tb = some T → p.1 ≠ T) ∧ E (.ref x) od H'
section
variable {X : Cx} {k : Nat} {C f : Addr} {fd : FuncData} {ps : List Str} {sp : Sp} {x m : Str} {p pos apos : Pos} {e o : Expr} {es : List Expr} {t : TA} {ta : TE}
end
end L2


namespace L2
open PySem PySem.Spec PyProof.Rows PySem.W SS
abbrev XKS := St → Value → Option Addr → Hp → Prop
/-- statements that may end by an error -/
def PXS (X : Cx) (st : List Stmt) (t : Ends → XKS → St → Hp → Prop) : Prop := ∀ (pins : List (Addr × Obj)) (s : Shared) (σ : St) (H : Hp) (D : Ends) (Ex : XKS), Inv X pins σ H s → t D Ex σ H → wpAny (model X.prog X.w) X.A (execs st X.env) (SP X pins D) (fun ev s' => ∃ σ', XEnd X pins σ' (Ex σ') ev s') s
section
variable {X : Cx} {e : Expr} {pos : Pos} {tp : St → Hp → VK → XK → Prop}
end
/-- the context of an except suite -/
abbrev Cx.hnd (X : Cx) (x : Addr) : Cx := { X with A := X.A.mark (some (.ref x)), calm := false, xe := fun _ _ => False }
theorem Inv.hnd {X : Cx} {pins : List (Addr × Obj)} {σ : St} {H : Hp} {s : Shared} (I : Inv X pins σ H s) (x : Addr) : Inv (X.hnd x) pins σ H s :=
  ⟨⟨I.ok.mod, I.ok.kind, I.ok.glob, I.ok.blt, I.ok.above, I.ok.inj, I.ok.has, I.ok.cab, (fun z => by cases z), I.ok.frames, I.ok.stk, I.ok.exf, I.ok.bs, I.ok.bsz, I.ok.noex, I.ok.exfs, I.ok.funs, I.ok.frf⟩, I.os, I.bare, I.base, I.loc, I.cell, I.free, I.freeC, I.pin, I.hok, I.len⟩
theorem Inv.unhnd {X : Cx} {pins : List (Addr × Obj)} {σ : St} {H : Hp} {s : Shared} {x : Addr} (hd : X.calm = true → X.A.handled = none) (I : Inv (X.hnd x) pins σ H s) : Inv X pins σ H s :=
  ⟨⟨I.ok.mod, I.ok.kind, I.ok.glob, I.ok.blt, I.ok.above, I.ok.inj, I.ok.has, I.ok.cab, hd, I.ok.frames, I.ok.stk, I.ok.exf, I.ok.bs, I.ok.bsz, I.ok.noex, I.ok.exfs, I.ok.funs, I.ok.frf⟩, I.os, I.bare, I.base, I.loc, I.cell, I.free, I.freeC, I.pin, I.hok, I.len⟩
section
variable {X : Cx} {pins : List (Addr × Obj)} {σ : St} {H : Hp} {s : Shared} {E : Value → Shared → Prop}
theorem locals_nofields (I : Inv X pins σ H s) {T : Addr} {oT : Obj} {ts : Array Value} (hT : s.heap.get? T = some oT) (hd : oT.data = .fields ts) : T ≠ X.env.locals := fun e => by
  obtain ⟨m, ⟨o, es, ep, ho, hdo, _⟩, _⟩ := I.loc
  rw [e, ho] at hT
  cases hT
  rw [hdo] at hd
  cases hd
theorem cells_nofields (I : Inv X pins σ H s) {T : Addr} {oT : Obj} {ts : Array Value} (hT : s.heap.get? T = some oT) (hd : oT.data = .fields ts) : ∀ y c, X.env.cells.lookup y = some c → c ≠ T := fun y c ec e => by
  obtain ⟨v, ob, hob, hdb⟩ := I.cell y c ec
  rw [e, hT] at hob
  cases hob
  rw [hdb] at hd
  cases hd
/-- the error lands in this frame -/
theorem landX {x C : Addr} {tb od : Option Addr} {Q : Shared → Prop} (I : Inv X pins σ H s) (hstk : X.stack = X.env :: X.outer) (hf : X.env.frame = some X.env.locals) (hx : H x = some (ExcO false C x od)) (fl : Fly X.s_0.heap s.heap H x tb) (hp : ∀ p ∈ X.pn ++ pins, ∀ T, tb = some T → p.1 ≠ T)
    (h : ∀ s' T', Inv X pins σ H s' → Fly X.s_0.heap s'.heap H x (some T') → (∀ p ∈ X.pn ++ pins, p.1 ≠ T') → Q s') :
    wpAny (model X.prog X.w) X.A (noteFrame (.ref x) X.env) (fun _ s2 => wpAny (model X.prog X.w) X.A (setFlight (.ref x) none) (fun _ s3 => Q s3) E s2) E s := by
  obtain ⟨o, vs, h1, h2, h3, h4⟩ := fl
  obtain ⟨⟨o', vs', g1, g2, g3, g4, g5, g6⟩, _, _⟩ := I.hok x _ hx
  rw [h1] at g1
  cases g1
  rw [h2] at g4
  cases g4
  have hTf : ∀ T, tb = some T → ∃ oT ts, s.heap.get? T = some oT ∧ oT.data = .fields ts := fun T e => by
    obtain ⟨⟨oT, ts, hT, hdT, _⟩, _⟩ := h4 T e
    exact ⟨oT, ts, hT, hdT⟩
  have hfr : X.A.frames = some (X.env :: X.outer) := by rw [← hstk]; exact I.ok.frames
  have hl : s.heap.FunFrames X.base (X.env :: X.outer) := by rw [← hstk]; exact I.stack
  refine noteX (base := X.base) hfr hl hf h1 h2 h3 (fun T' e => ⟨(h4 T' e).1, (h4 T' e).2.1⟩) fun h' T' t0 tz tx hx' tr kp sl th => ?_
  have hd' := Obj.data_mapFields h2 (·.setIfInBounds 1 (Value.ref T'))
  refine flightX (s := { s with heap := h' }) hx' hd' (by simp [g5]) tr fun h2' tr2 k2 => ?_
  have nT : ∀ b ob, s.heap.get? b = some ob → b ≠ T' := fun b ob e q => by rw [q, t0] at e; cases e
  have hfs : frs (X.env :: X.outer) = X.env.locals :: X.fs := by
    show (X.env :: X.outer).filterMap (·.frame) = _
    rw [List.filterMap_cons, hf]
    rfl
  have xfr : ∀ b ∈ frs (X.env :: X.outer), H b = none := fun b hb => I.stkFree b (by rw [hstk]; exact hb)
  have nx : ∀ b, H b = none → b ≠ x := fun b n e => by rw [e, hx] at n; cases n
  have kept : ∀ b u, H b = some u → b ≠ x → ∀ ob, s.heap.get? b = some ob → h2'.get? b = some ob := fun b u e hb ob q =>
    (k2 b (nT b ob q)).trans (kp b ob (fun hm => by rw [xfr b hm] at e; cases e) hb (fun z => by rw [(h4 b z).2.2.1] at e; cases e) q)
  have hx2 : h2'.get? x = some (Obj.mapFields (·.setIfInBounds 1 (Value.ref T')) o) := (k2 x (Ne.symm tx)).trans hx'
  have I2 : Inv X pins σ H { s with heap := h2' } := by
    refine I.step (g' := s.gens) (d' := s.drawn) (t' := s.toks) (ch := tb.toList) (fun b hb => ?_) (fun b ob nl nf hb e n => ?_) (fun b ob nl nf hb e n => ?_) (fun b ob _ _ n => n) (fun b ob hb e => ?_) (fun _ _ e => e) (fun _ _ _ e => e) (fun b ps e => ⟨#[], by rw [e]; simp⟩) (fun m hm => ?_) (fun b u e => ?_) I.bare
    · have eb : tb = some b := Option.mem_toList.mp hb
      obtain ⟨oT, ts, hT, hdT⟩ := hTf b eb
      exact ⟨.inr (h4 b eb).2.2.2, locals_nofields I hT hdT, cells_nofields I hT hdT, fun p q => hp p q b eb⟩
    · exact (k2 b (nT b ob e)).trans (kp b ob (by rw [hfs]; simp [nl, nf]) (nx b n) (fun z => hb (Option.mem_toList.mpr z)) e)
    · obtain ⟨sl', e'⟩ := sl b ob (nx b n) (fun z => hb (Option.mem_toList.mpr z)) e
      exact ⟨sl', (k2 b (nT b ob e)).trans e'⟩
    · by_cases hbx : b = x
      · rw [hbx]; exact ⟨_, hx2⟩
      · obtain ⟨sl', e'⟩ := sl b ob hbx (fun z => hb (Option.mem_toList.mpr z)) e
        exact ⟨_, (k2 b (nT b ob e)).trans e'⟩
    · obtain ⟨oL, es, ep, hoL, r⟩ := hm
      obtain ⟨sl', e'⟩ := sl _ _ (nx _ I.free) (fun z => by obtain ⟨oT, ts, hT, hdT⟩ := hTf _ z; exact locals_nofields I hT hdT rfl) hoL
      exact ⟨_, es, ep, (k2 _ (nT _ _ hoL)).trans e', r⟩
    · by_cases hb : b = x
      · subst hb
        rw [hx] at e
        cases e
        exact ExcO.ok ⟨_, _, hx2, (Obj.cls_mapFields _ _).trans g2, (by obtain ⟨oc, odi, oda, osl⟩ := o; cases h2; exact g3), hd', by simpa using g5, fun z => by cases z⟩
      · refine (I.hok b u e).stay (fun c v hc r => ?_) (fun c z => z) fun c xs z => z
        rcases hc with rfl | hc
        · exact kept c u e hb v r
        · exact kept c _ hc (fun z => by rw [z, hx] at hc; cases hc) v r
  refine h _ T' I2 ⟨_, _, hx2, hd', by simp [g5, tbV], fun T2 e => ?_⟩ fun p hp' e => ?_
  · cases e
    exact ⟨tr2, tx, I.hok.fresh tz, Nat.le_trans I.sz tz⟩
  · exact absurd (Heap.lt_size (I.pin p hp').1) (by rw [e]; exact Nat.not_lt.mpr tz)
end
end L2
namespace L2
open PySem PySem.Spec PyProof.Rows PySem.W SS
/-! statements of a try's body -/
abbrev TXS := Ends → XKS → St → Hp → Prop
/-- one statement that may end by an error -/
def PXT (X : Cx) (st : Stmt) (t : TXS) : Prop := ∀ (pins : List (Addr × Obj)) (s : Shared) (σ : St) (H : Hp) (D : Ends) (Ex : XKS), Inv X pins σ H s → t D Ex σ H → wpAny (model X.prog X.w) X.A (exec st X.env) (SP X pins D) (fun ev s' => ∃ σ', XEnd X pins σ' (Ex σ') ev s') s
section
variable {X : Cx} {e : Expr} {pos : Pos} {tp : St → Hp → VK → XK → Prop} {st : Stmt} {rest : List Stmt} {t u : TXS}
theorem pxs_nil : PXS X [] (fun D _ σ H => D.nx σ H) := fun _ _ σ H _ _ I h => wpAny_execs_nil ⟨σ, H, I, h⟩
theorem pxs_cons (h1 : PXT X st t) (h2 : PXS X rest u) : PXS X (st :: rest) (fun D Ex σ H => t { D with nx := fun σ' H' => u D Ex σ' H' } Ex σ H) := by
  intro pins s σ H D Ex I h
  refine wpAny_execs_cons (wpAny_mono (h1 pins s σ H _ Ex I h) (fun f s1 q => ?_) fun _ _ z => z)
  cases f with
  | next =>
    obtain ⟨σ', H', I', q⟩ := q
    exact h2 pins s1 σ' H' D Ex I' q
  | ret v => exact q
  | brk => exact q
  | cont => exact q
theorem pxs_one (h1 : PXT X st t) : PXS X [st] t := by
  intro pins s σ H D Ex I h
  refine wpAny_execs_cons (wpAny_mono (h1 pins s σ H D Ex I h) (fun f s1 q => ?_) fun _ _ z => z)
  cases f with
  | next => exact wpAny_execs_nil q
  | ret v => exact q
  | brk => exact q
  | cont => exact q
theorem pxt_if {c : Expr} {a b : List Stmt} {tc : TT} (hc : PT X.nox c tc) (ha : PXS X a t) (hb : PXS X b u) : PXT X (.If c a b pos) (fun D Ex σ H => tc σ H fun d H1 => if d = true then t D Ex σ H1 else u D Ex σ H1) := by
  intro pins s σ H D Ex I h
  refine wpAny_If (wpAny_mono (hc pins s σ H _ (I.wish _) h) (fun d s1 ⟨H1, I1, q1⟩ => ?_) fun _ _ z => z.elim)
  cases d with
  | true => exact ha pins s1 σ H1 D Ex I1.unwish q1
  | false => exact hb pins s1 σ H1 D Ex I1.unwish q1
theorem pxt_raise {te : TE} (he : PE X.nox e te) (hc : X.calm = true) : PXT X (.Raise (some e) none pos) (fun _ Ex σ H => te σ H fun v H1 => ∃ (x C : Addr) (od : Option Addr), v = .ref x ∧ H1 x = some (ExcO true C x od) ∧ excC X.K C = true ∧ Ex σ (.ref x) od (upd H1 x (ExcO false C x od))) := by
  intro pins s σ H D Ex I h
  rw [arm_exec_Raise]
  have hh : X.A.handled = none := I.ok.hd hc
  refine wpAny_bind (wpAny_standAt ?_)
  show wpAny _ _ (raiseStmt X.env (some (do let v ← eval e X.env; standAt pos; pure v)) none) _ _ s
  refine raiseX hh (wpAny_bind (wpAny_mono (he pins s σ H _ (I.wish _) h) (fun v s1 hq => wpAny_bind (wpAny_standAt (wpAny_pure ?_))) fun _ _ z => z.elim))
  obtain ⟨v', H1, I1, rv, x, C, od, rfl, hx, M, hE⟩ := hq
  cases rv
  have I1 := I1.unwish
  obtain ⟨bm, N, nm, qn, bs, hdct, sn, sub, ab, col, dd, k0, k1, k2, k3, k5, newId, hC, hbase⟩ := excC_obj I1.kIn M
  obtain ⟨⟨o, vs, h1, h2, h3, h4, h5, h6⟩, _, _⟩ := I1.hok x _ hx
  obtain ⟨t, rfl⟩ := h6 rfl
  obtain ⟨oc, odi, oda, osl⟩ := o
  dsimp only at h2 h3 h4
  subst h2 h3 h4
  refine ⟨x, t, odi, osl, C, N, nm, qn, bs, bm, hdct, sn, sub, ab, col, dd, k0, k1, k2, k3, k5, newId, rfl, hbase, hC, h1, ?_⟩
  have I2 : Inv X pins σ (upd H1 x (ExcO false C x odi)) s1 := by
    have := I1.write (t' := s1.toks) (x := x) (e := x) (o := ExcO false C x odi) (h' := s1.heap) (by rw [hx]; exact True.intro) (.inl rfl) (fun b u _ e => e) ⟨_, h1⟩ (ExcO.ok ⟨_, _, h1, rfl, rfl, rfl, h5, fun z => by cases z⟩)
    exact this
  exact ⟨σ, x, C, odi, _, none, rfl, I2, upd_same, ⟨_, _, h1, rfl, rfl, fun T e => by cases e⟩, (fun p hp T z => by cases z), hE⟩
end
end L2


namespace L2
open PySem PySem.Spec PyProof.Rows PySem.W SS
section
variable {X : Cx}
/-- behind the suite the name is gone -/
theorem nameGoes {pins : List (Addr × Obj)} {σ : St} {H : Hp} {s : Shared} {E : Value → Shared → Prop} {i : Nat} {n : Str} {pos : Pos} {Q : Unit → Shared → Prop} (I : Inv X pins σ H s) (hN : X.N.Nodup) (hi : X.N[i]? = some n) (hn : X.env.scope.names.lookup n = some .local)
    (h : ∀ s', Inv X pins (σ.set i none) H s' → Q () s') : wpAny (model X.prog X.w) X.A (do bindName X.env n .none; unbindBehindTheSuite X.env n pos) Q E s := by
  obtain ⟨m, hns, hl⟩ := I.loc
  have hcls : (X.env.scope.kind == .class || (X.env.scope.kind == .module && X.env.locals != X.env.globals)) = false := by rw [I.ok.kind]; rfl
  refine wpAny_nameGoes_keeps hn hns hcls fun h' v hn' hs => h _ ?_
  have kp : ∀ b ob, b ≠ X.env.locals → s.heap.get? b = some ob → h'.get? b = some ob := fun b ob hb e => (hs.2 b hb).trans e
  have lenσ : (σ.set i none).length = X.N.length := by rw [List.length_set]; exact I.len
  have nl0 : ∀ b ob, X.s_0.heap.get? b = some ob → b ≠ X.env.locals := fun b ob e => Nat.ne_of_lt (Nat.lt_of_lt_of_le (Heap.lt_size e) I.ok.above)
  have hok : HOk X.prog X.w H h' := fun b u e => by
    have nb : ∀ c w', H c = some w' → c ≠ X.env.locals := fun c w' q z => by rw [z, I.free] at q; cases q
    refine (I.hok b u e).stay (fun c w' hc q => kp c w' ?_ q) (fun _ q => q) fun _ _ q => q
    rcases hc with rfl | hc
    · exact nb c u e
    · exact nb c _ hc
  refine ⟨I.ok, I.os, I.bare, ⟨fun b o e n' hb hx => kp b o (nl0 b o e) (I.base.keep b o e n' hb hx), fun b o e n' hb hx => ?_, I.base.free, fun b o e hx => ?_, I.base.tups, I.base.frzs, I.base.tbls⟩, ⟨_, hn', fun j y w' hj hσ hv => ?_⟩, fun y c ec => ?_, I.free, I.freeC, fun p hp => ?_, hok, lenσ⟩
  · obtain ⟨sl, e'⟩ := I.base.slot b o e n' hb hx
    exact ⟨sl, kp b _ (nl0 b o e) e'⟩
  · obtain ⟨o', e'⟩ := I.base.there b o e hx
    exact ⟨o', kp b _ (nl0 b o e) e'⟩
  · have hji : i ≠ j := fun z => by
      subst z
      by_cases hlt : i < σ.length
      · rw [List.getElem?_set_self hlt] at hσ; cases hσ
      · rw [List.getElem?_eq_none (by simpa using hlt)] at hσ; cases hσ
    rw [List.getElem?_set_ne hji] at hσ
    obtain ⟨u, ru, lk⟩ := hl j y w' hj hσ hv
    have hyn : y ≠ n := fun z => by
      subst z
      obtain ⟨h1, e1⟩ := List.getElem?_eq_some_iff.mp hi
      obtain ⟨h2, e2⟩ := List.getElem?_eq_some_iff.mp hj
      exact hji ((List.getElem_inj hN).mp (e1.trans e2.symm))
    refine ⟨u, ru, ?_⟩
    rcases lk with ⟨k1, k2⟩ | ⟨k1, c, k2, ob, hob, hdb⟩
    · exact .inl ⟨k1, by show (if y = n then v else m y) = some u; rw [if_neg hyn]; exact k2⟩
    · refine .inr ⟨k1, c, k2, ob, kp c ob (I.cne y c k2) hob, hdb⟩
  · obtain ⟨v', ob, hob, hdb⟩ := I.cell y c ec
    exact ⟨v', ob, kp c ob (I.cne y c ec) hob, hdb⟩
  · obtain ⟨e, a1, a2, a3⟩ := I.pin p hp
    exact ⟨kp _ _ a2 e, a1, a2, a3⟩
/-- what is caught by what -/
theorem excMatchX {K : Frag} {M : Model} {A : Around} {E : Value → Shared → Prop} {s : Shared} {x C Ch : Addr} {oe : Obj} {b : Bool} {Q : Bool → Shared → Prop} (KX : K.In s.heap) (he : s.heap.get? x = some oe) (hcls : oe.cls = .ref C) (hc : excC K Ch = true) (hm : mroIn K C (.ref Ch) = some b) (hq : Q b s) :
    wpAny M A (excMatches (.ref x) (.ref Ch)) Q E s := by
  obtain ⟨bm, N, nm, qn, bs, hdct, sn, sub, ab, col, dd, k0, k1, k2, k3, k5, newId, hC, hbase⟩ := excC_obj KX hc
  have hcB : (Value.ref Ch :: bm).contains (.type "BaseException") = true := by rw [List.contains_cons, hbase, Bool.or_true]
  have L := looks_mroIn (M := M) KX hm
  have f := tc_notTuple
  obtain ⟨h, g, d, t, os⟩ := s
  unfold excMatches
  repeat (first | with_reducible refine wpAny_loadPart_at he ?_ | with_reducible refine wpAny_loadPart_at hC ?_ | (with_reducible refine wpAny_isSubtype_exc hC ?_; rw [hcB]) | wp_step)
  rw [hcls]
  refine L.at ?_
  cases b <;> (wp_walk; exact hq)
/-- except clauses: the error, its class, its dict -/
abbrev TH := Addr → Addr → Option Addr → TS
def PH (X : Cx) (hs : List ExceptHandler) (t : TH) : Prop := ∀ (pins : List (Addr × Obj)) (s : Shared) (σ : St) (H : Hp) (D : Ends) (x C : Addr) (od : Option Addr) (T : Addr), Inv X pins σ H s → H x = some (ExcO false C x od) → Fly X.s_0.heap s.heap H x (some T) → (∀ p ∈ X.pn ++ pins, p.1 ≠ T) → t x C od D σ H →
  wpAny (model X.prog X.w) X.A (handleBy (.ref x) X.env hs) (SP X pins D) X.xe s
theorem ph_nil : PH X [] (fun _ _ _ _ _ _ => False) := fun _ _ _ _ _ _ _ _ _ _ _ _ _ z => z.elim
/-- the clause's end: the name goes -/
abbrev Ends.gone (D : Ends) (i : Nat) : Ends := ⟨fun σ2 H2 => D.nx (σ2.set i none) H2, D.rt, fun σ2 H2 => D.bk (σ2.set i none) H2, fun σ2 H2 => D.ct (σ2.set i none) H2⟩
def tAs (K : Frag) (Ch : Addr) (i : Nat) (ts : Addr → TS) (tr : TH) : TH := fun x C od D σ H => ∃ b, mroIn K C (.ref Ch) = some b ∧ if b = true then ts x (D.gone i) (σ.set i (some (.ref x))) H else tr x C od D σ H
theorem ph_as {i : Nat} {n cx : Str} {Ch : Addr} {suite : List Stmt} {b0 : Stmt} {np hpos : Pos} {rest : List ExceptHandler} {ts : Addr → TS} {tr : TH} (hs : ∀ x, PSs (X.hnd x) (b0 :: suite) (ts x)) (hr : PH X rest tr)
    (hN : X.N.Nodup) (hi : X.N[i]? = some n) (hn : X.env.scope.names.lookup n = some .local) (hg : Gl X cx) (hm : X.mg cx = some (.ref Ch)) (hc : excC X.K Ch = true) (hdb : (cx == ("__debug__" : Str)) = false := by decide) :
    PH X (.ExceptHandler (some (.Name cx np)) (some n) (b0 :: suite) hpos :: rest) (tAs X.K Ch i ts tr) := by
  intro pins s σ H D x C od T I ex fl hp hw
  obtain ⟨b, hmr, hw⟩ := hw
  refine wpAny_handleBy_cons (codeAny_handlers_test (ld_glob (X := X.hnd x) (I.hnd x) hg hm ?_ hdb)) (by intro q; cases q)
  obtain ⟨⟨o, vs, a1, a2, a3, a4, a5, a6⟩, _, _⟩ := I.hok x _ ex
  refine excMatchX I.kIn a1 a2 hc hmr ?_
  cases b with
  | false => exact hr pins s σ H D x C od T I ex fl hp hw
  | true =>
    have hw : ts x (D.gone i) (σ.set i (some (.ref x))) H := hw
    refine codeAny_handlers_suite_as ?_
    obtain ⟨hh, g, d, tk, os⟩ := s
    obtain ⟨o2, vs2, c1, c2, c3, c4⟩ := fl
    obtain ⟨tr0, t1, t2, t3⟩ := c4 T rfl
    refine flightX (s := ⟨hh, g, d, tk, os⟩) c1 c2 c3 tr0 fun h3 tr3 k3' => ?_
    obtain ⟨oT, ts', hT, hdT, _⟩ := id tr0
    have I3 : Inv X pins σ H ⟨h3, g, d, tk, os⟩ := I.turned (t' := tk) (it := T) (fun b ob hb e => (k3' b hb).trans e) t2 (locals_nofields I hT hdT) (.inr t3) (cells_nofields I hT hdT) hp
    refine store_ok (X := X.hnd x) (I3.hnd x) hN hi (.inl hn) (show RelV (.ref x) (.ref x) from rfl) (fun s4 I4 => ?_) (.inr hn)
    refine wpAny_mono (hs x pins s4 _ H _ I4 hw) (fun f s5 q5 => ?_) fun _ _ z => z.elim
    cases f with
    | next =>
      obtain ⟨σ5, H5, I5, q⟩ := q5
      exact nameGoes (I5.unhnd I.ok.hd) hN hi hn fun s6 I6 => ⟨_, H5, I6, q⟩
    | brk =>
      obtain ⟨σ5, H5, I5, q⟩ := q5
      exact nameGoes (I5.unhnd I.ok.hd) hN hi hn fun s6 I6 => ⟨_, H5, I6, q⟩
    | cont =>
      obtain ⟨σ5, H5, I5, q⟩ := q5
      exact nameGoes (I5.unhnd I.ok.hd) hN hi hn fun s6 I6 => ⟨_, H5, I6, q⟩
    | ret u =>
      obtain ⟨v, σ5, H5, I5, rv, q⟩ := q5
      exact nameGoes (I5.unhnd I.ok.hd) hN hi hn fun s6 I6 => ⟨v, _, H5, I6, rv, q⟩
/-- try: body, clauses -/
def tTryH (tb : TXS) (th : TH) : TS := fun D σ H => tb D (fun σ' ev od H' => ∃ x C, ev = .ref x ∧ H' x = some (ExcO false C x od) ∧ th x C od D σ' H') σ H
theorem ps_tryH {body : List Stmt} {h0 : ExceptHandler} {hs : List ExceptHandler} {pos : Pos} {tb : TXS} {th : TH} (hb : PXS X body tb) (hh : PH X (h0 :: hs) th) (hstk : X.stack = X.env :: X.outer) (hf : X.env.frame = some X.env.locals) :
    PS X (.Try body (h0 :: hs) [] [] pos) (tTryH tb th) := by
  intro pins s σ H D I h
  refine wpAny_Try_except (wpAny_mono (hb pins s σ H D _ I h) (fun f s1 q => ?_) fun ev s1 hx => ?_)
  · cases f with
    | next => exact wpAny_execs_nil q
    | ret v => exact q
    | brk => exact q
    | cont => exact q
  · obtain ⟨σ1, x, C, od, H1, tb', rfl, I1, ex, fl, hp, x', C', e1, ex', hw⟩ := hx
    cases e1
    exact landX I1 hstk hf ex fl hp fun s2 T2 I2 fl2 hp2 => hh pins s2 σ1 H1 D x C' od T2 I2 ex' fl2 hp2 hw
end
end L2

namespace L2
open PySem PySem.Spec PyProof.Rows PySem.W SS
structure XIsi (K : Frag) (C : Addr) : Prop extends XGet K C where
  ha : findIn K (.ref C) "__class__" = some (some (.builtin "object.__class__"))
  hn : specialIn K (.builtin "object.__class__") "__get__" = some (some (.builtin "getset_descriptor.__get__"))
  htk : takesIn K (.builtin "object.__class__") = some true
  hm : mroIn K C (.type "object") = some true
section
variable {prog : Program} {w : World} {A : Around} {E : Value → Shared → Prop} {s : Shared} {K : Frag} {x C : Addr} {ox : Obj} {od : Option Obj}
/-- what the type tells by a data descriptor, whatever the object's dict has -/
theorem findD {a g : Value} {name : Str} (hc : (clsIn K C).isSome = true) (ha : findIn K (.ref C) name = some (some a)) (hg : specialIn K a "__get__" = some (some g)) (ht : takesIn K a = some true) : findObj K C od name = some (.bind g a) := by
  obtain ⟨cd, e⟩ := Option.isSome_iff_exists.mp hc
  simp [findObj, e, ha, hg, ht]
theorem x_class {Q : Option Value → Shared → Prop} (c : XIsi K C) (X : K.In s.heap) (I : InstAt s.heap x ox C od) (h : Q (some (.ref C)) { s with toks := s.toks + 1 }) : wpAny (model prog w) A (getAttr? (.ref x) "__class__") Q E s := by
  have hf : findObj K C od "__class__" = some (.bind (.builtin "getset_descriptor.__get__") (.builtin "object.__class__"))   := findD (by obtain ⟨cd, hc, _⟩ := any_some c.hd; rw [hc]; rfl) c.ha c.hn c.htk
  obtain ⟨hh', g, d, t, os⟩ := s
  have L0 := I.type (M := model prog w)
  have L1 := looks_findIn (M := model prog w) X c.ga
  have L2 := looks_findIn (M := model prog w) X c.gn
  have L3 := looks_find (M := model prog w) X I hf
  have sub : Looks (model prog w) hh' (isInstance (.ref x) (.type "BaseException")) true := I.type.andThen (looks_mroIn X c.be)
  unfold getAttr? getAttrBy? getAttrBy
  refine wpAny_bind (wpAny_mkText (wpAny_bind (wpAny_attempt (wpAny_holding (wpAny_bind (L0.at (wpAny_bind (L1.at ?_))))))))
  have hx1 : (onTheHeap (Value.ref C) && Value.builtin "BaseException.__getattribute__" == Value.builtin "object.__getattribute__") = false := by
    rw [show (Value.builtin "BaseException.__getattribute__" == Value.builtin "object.__getattribute__") = false from by decide +kernel]; rfl
  show wpAny _ _ (if (onTheHeap (Value.ref C) && Value.builtin "BaseException.__getattribute__" == Value.builtin "object.__getattribute__") = true then _ else getAttrByItsOwn (.ref x) (.str "__class__" t) (.ref C) (.builtin "BaseException.__getattribute__") false false) _ _ _
  rw [hx1, if_neg Bool.false_ne_true]
  unfold getAttrByItsOwn hookBefore
  rw [if_pos (show onTheHeap (Value.ref C) = true from rfl)]
  refine wpAny_bind (L2.at ?_)
  have SL := F.attr_ValueError.ga
  unfold callGetattribute
  rw [show (false && onTheHeap (Value.builtin "BaseException.__getattribute__")) = false from rfl, if_neg Bool.false_ne_true]
  refine wpAny_bind (wpAny_attempt (wpAny_holding ?_))
  unfold boundAndCalled
  refine wpAny_bind (wpAny_of_eq (SL.bind (.ref x)) ?_)
  refine wpAny_call (codeAny_call_builtin SL.plain F.entry_bexc_ga (@check_slot (model prog w) _ _ _ "BaseException.__getattribute__" "BaseException" "__getattribute__" (.ref x) [.str "__class__" t] [] _ (by decide +kernel) (by decide +kernel) sub (F.args_bexc_ga (.ref x) (.str "__class__" t)) ?_))
  unfold Builtin.«object.__getattribute__»
  refine wpAny_bind (wpAny_pure (wpAny_bind (wpAny_pure (wpAny_bind (L0.at (wpAny_bind (L3.at ?_)))))))
  show wpAny _ _ (holding [.builtin "object.__class__"] (call (.builtin "getset_descriptor.__get__") [.builtin "object.__class__", .ref x, .ref C]) >>= ret) _ _ _
  refine wpAny_bind (wpAny_holding (wpAny_call (class_get (s := ⟨hh', g, d, t + 1, os⟩) (ox := ox) (od := od) X I c.hm ?_)))
  refine wpAny_pure ?_
  show wpAny _ _ (handedOut (.ref C)) _ _ _
  rw [handedOut_of (show handedIn (.ref C) = true from rfl)]
  exact wpAny_pure (wpAny_pure h)
theorem kitx_exc (c : XIsi K C) : KitX K (.ref x) (.ref C) (fun h => ∃ ox od, InstAt h x ox C od) where
  ty := fun _ _ _ ⟨_, _, I⟩ => I.type
  it := fun _ _ X _ => by
    obtain ⟨cdD, hcD, _⟩ := any_some c.hd
    unfold clsIn at hcD
    split at hcD
    · rename_i c' d' cd' sl' ho
      intro A' Q' E' s' k q
      unfold isType loadHead
      exact wpAny_bind (wpAny_loadPart (k _ _ (X _ _ ho)) (wpAny_pure q))
    · cases hcD
  ne := fun h tp dd its n sl X htp => by
    obtain ⟨cdD, hcD, _⟩ := any_some c.hd
    refine Bool.eq_false_iff.mpr fun q => ?_
    have e : C = tp := Value.ref.inj (beq_iff_eq.mp q)
    subst e
    unfold clsIn at hcD
    split at hcD
    · rename_i c' d' cd' sl' ho
      have z := (X _ _ ho).symm.trans htp
      cases z
    · cases hcD
  ca := fun X ⟨_, _, I⟩ k => x_class c X I k
end
section
variable {X : Cx}
/-- an error in the heap -/
def XAt (H : Hp) (a C : Addr) : Prop := ∃ nw od, H a = some (ExcO nw C a od) ∧ ∀ dx, od = some dx → ∃ fs, H dx = some (XdO dx fs)
theorem XAt.none {H : Hp} {a C : Addr} {nw : Bool} (h : H a = some (ExcO nw C a none)) : XAt H a C := ⟨nw, Option.none, h, fun _ z => by cases z⟩
theorem XAt.some {H : Hp} {a C dx : Addr} {nw : Bool} {fs : List (Str × V)} (h : H a = some (ExcO nw C a (some dx))) (hd : H dx = Option.some (XdO dx fs)) : XAt H a C := ⟨nw, Option.some dx, h, fun _ z => by cases z; exact ⟨fs, hd⟩⟩
theorem XAt.mono {H H' : Hp} {a C : Addr} (h : XAt H a C) (sm : Same H H') : XAt H' a C := by
  obtain ⟨nw, od, h1, h2⟩ := h
  exact ⟨nw, od, sm _ _ h1, fun dx e => (h2 dx e).imp fun fs q => sm _ _ q⟩
theorem XAt.inst {pins : List (Addr × Obj)} {σ : St} {H : Hp} {s : Shared} {a C : Addr} (I : Inv X pins σ H s) (h : XAt H a C) : ∃ ox oo, InstAt s.heap a ox C oo := by
  obtain ⟨nw, od, ha, hd⟩ := h
  obtain ⟨⟨o, vs, h1, h2, h3, h4, h5, h6⟩, _, _⟩ := I.hok a _ ha
  cases od with
  | none => exact ⟨o, Option.none, instX h1 h2 h3 h4 fun z e => by subst e; exact True.intro⟩
  | some dx =>
    obtain ⟨fs, hd⟩ := hd dx rfl
    obtain ⟨⟨z, mA, hns, _⟩, _, _⟩ := I.hok dx _ hd
    obtain ⟨oq, hoq, _⟩ := lookIn_ns hns
    exact ⟨o, Option.some oq, instX h1 h2 h3 h4 fun z e => by subst e; exact hoq⟩
/-- isinstance(e, C), e any error -/
theorem call_isiG : CallR X (.builtin "isinstance") (fun xs H Q => ∃ (a C : Addr) (c : V) (cv : Value) (b : Bool), xs = [.ref a, c] ∧ XAt H a C ∧ XIsi X.K C ∧ RelV c cv ∧ (∀ v, RelV c v → v = cv) ∧ kitOne X.K (.ref C) cv = some b ∧ Q (.bl b) H) := by
  intro pins s σ H vs us Q I r h
  obtain ⟨a, C, c, cv, b, rfl, ha, xi, rc, uc, ko, q⟩ := h
  obtain ⟨u, v, rfl, ru, rv⟩ := r.two
  cases ru
  have ev := uc v rv
  subst ev
  exact kia_one (kitx_exc xi) I.kIn (ha.inst I) ko (by intro z; cases z) fun tk => ⟨.bl b, H, I.tok tk, rfl, q⟩
theorem uniq_ref {a : Addr} : ∀ v, RelV (.ref a) v → v = .ref a := fun v h => h
theorem uniq_ty {n : String} : ∀ v, RelV (.ty n) v → v = .type n := fun v h => h
end
end L2


namespace L2
open PySem PySem.Spec PyProof.Rows PySem.W SS
/-! texts -/
section
variable {X : Cx} {e : Expr} {te : TE} {pos : Pos}
def rFmt : V → Hp → VK → Prop := fun v H Q => (∃ i : Int, v = .int i ∧ i.natAbs.log2 < 1920 ∧ Q (.str (toString i)) H) ∨ (∃ z : Str, v = .str z ∧ z.length ≤ sizeLine ∧ Q (.str z) H) ∨ ∃ b : Bool, v = .bl b ∧ Q (.str (if b = true then "True" else "False")) H
theorem pe_fv (h : PE X e te) : PE X (.FormattedValue e (-1) none pos) (fun σ H Q => te σ H fun v H1 => rFmt v H1 Q) := by
  intro pins s σ H Q I hw
  refine FormattedValue_plain (thn (h pins s σ H _ I hw) fun u s1 ⟨v, H1, I1, r, q⟩ => ?_)
  rcases q with ⟨i, rfl, hz, q⟩ | ⟨z, rfl, hz, q⟩ | ⟨b, rfl, q⟩
  · obtain ⟨t, rfl⟩ := r
    exact formatField_int_small hz ⟨.str (toString i), H1, I1.tok _, ⟨_, rfl⟩, q⟩
  · obtain ⟨t, rfl⟩ := r
    exact formatField_str (fun t' tk => ⟨.str z, H1, I1.tok _, ⟨_, rfl⟩, q⟩) hz
  · cases r
    refine wpAny_formatField_bool ⟨.str _, H1, I1.tok _, ⟨_, rfl⟩, ?_⟩
    cases b <;> exact q
/-- the parts of an f-string, behind what is joined already -/
def PJ (X : Cx) (es : List Expr) (t : Str → St → Hp → VK → Prop) : Prop := ∀ (out : Str) (pins : List (Addr × Obj)) (s : Shared) (σ : St) (H : Hp) (Q : VK), Inv X pins σ H s → t out σ H Q → wpAny (model X.prog X.w) X.A (joinParts out (evalEach es X.env)) (EP X pins σ Q) X.xe s
theorem pj_nil : PJ X [] (fun out _ H Q => out.length ≤ sizeLine ∧ Q (.str out) H) := by
  intro out pins s σ H Q I h
  exact joinParts_nil ⟨.str out, H, I.tok _, ⟨_, rfl⟩, h.2⟩ h.1
theorem pj_cons {es : List Expr} {tj : Str → St → Hp → VK → Prop} (h : PE X e te) (hj : PJ X es tj) (he : evalEach (e :: es) X.env = eval e X.env :: evalEach es X.env := by rfl) :
    PJ X (e :: es) (fun out σ H Q => te σ H fun v H1 => ∃ y, v = .str y ∧ (out ++ y).length ≤ sizeLine ∧ tj (out ++ y) σ H1 Q) := by
  intro out pins s σ H Q I hw
  rw [he]
  refine joinParts_cons (thn (h pins s σ H _ I hw) fun u s1 ⟨v, H1, I1, r, y, ev, hz, q⟩ => ?_)
  subst ev
  obtain ⟨t, rfl⟩ := r
  exact ⟨hz, hj _ pins s1 σ H1 Q I1 q⟩
theorem pe_fstr {e2 : Expr} {es : List Expr} {tj : Str → St → Hp → VK → Prop} (hj : PJ X (e :: e2 :: es) tj) (he : evalEach (e :: e2 :: es) X.env = eval e X.env :: eval e2 X.env :: evalEach es X.env := by rfl) : PE X (.JoinedStr (e :: e2 :: es) pos) (fun σ H Q => tj Str.empty σ H Q) := by
  intro pins s σ H Q I hw
  have := hj Str.empty pins s σ H Q I hw
  rw [he] at this
  exact JoinedStr_many this
end
/-! defs that are called while an error is handled -/
structure RoomH (k : Nat) (A : Around) : Prop where
  dp : A.depth + 3 * k + 5 < recursionLimit
  un : A.units + 16 * k + 200 < cLine
theorem Room.h {k : Nat} {A : Around} (r : Room k A) : RoomH k A := ⟨r.dp, r.un⟩
theorem RoomH.deeper {k : Nat} {A : Around} (r : RoomH (k + 1) A) (env : Env) : RoomH k (A.deeper env) :=
  ⟨by have := r.dp; show A.depth + 1 + 3 * k + 5 < _; omega, by have := r.un; show A.units + 3 + 16 * k + 200 < _; omega⟩
theorem RoomH.in1 {k : Nat} {A : Around} (r : RoomH (k + 1) A) : RoomH k A.in1 := ⟨by have := r.dp; show A.depth + 3 * k + 5 < _; omega, by have := r.un; show A.units + 1 + 16 * k + 200 < _; omega⟩
structure FnH (P : Program) (w : World) (K : PySem.W.Frag) (mg : Str → Option Value) (base : Heap) (k : Nat) (f : Addr) (fd : FuncData) (ps : List Str) (sp : Sp) : Prop where
  len : ∀ vs H Q E, sp vs H Q E → vs.length = ps.length
  run : ∀ (A : Around) (outer : List Env) (s : Shared) (H : Hp) (args : Args) (us : List Value) (vs : List V) (Q : VK) (E : XK), RoomH k A → Env0 P w K mg base A outer s H → BindsTo s fd args (ps.zip us) → Vals vs us → sp vs H Q E →
    codeAny (model P w) A (.call (.ref f) args) (CR CX0 outer P w H s Q E) s
/-- the context of such a def's body -/
abbrev cxH (P : Program) (w : World) (K : PySem.W.Frag) (mg : Str → Option Value) (base : Heap) (N : List Str) (qual : Str) (scope : Scope) (f : Addr) (cd : Value) (A : Around) (outer : List Env) (s : Shared) (H : Hp) (E : XK) : Cx :=
  { cxOf CX0 P w K mg base N qual scope f cd A outer s H E with calm := false, xe := fun _ _ => False }
theorem Fun.okH {P : Program} {w : World} {K : PySem.W.Frag} {mg : Str → Option Value} {base : Heap} {x qual : Str} {st : Stmt} {f : Addr} {fd : FuncData} {N ps : List Str} {k : Nat} {sp : Sp} (F : Fun K x qual st f fd) (S : FnScope N ps (defScope st)) (len : ∀ vs H Q E, sp vs H Q E → vs.length = ps.length)
    (hbody : ∀ (cdv : Value) (A : Around) (outer : List Env) (s : Shared) (H : Hp) (vs : List V) (Q : VK) (E : XK), RoomH k (A.deeper (envOfC qual (defScope st) s.heap.objs.size f cdv)) → sp vs H Q E →
      ∃ t, PSs (cxH P w K mg base N qual (defScope st) f cdv A outer s H E) (defBody st) t ∧ t { nx := fun _ H' => Q .non H', rt := Q } (start N vs) H) : FnH P w K mg base (k + 1) f fd ps sp := by
  obtain ⟨oc, od, kV, doc, pm, an, cdv, ct, osl, rfl, lk, hcd⟩ := F.ex
  refine ⟨len, fun A outer s H args us vs Q E hr e0 hb r hsp => ?_⟩
  have hl := len _ _ _ _ hsp
  have KX : K.In s.heap := e0.mod.kin.keeps fun b o e => (e0.bs b o e).1
  have lim : s.heap.NoLimit := e0.mod.nolimit.keeps fun b o e => (e0.bs b o e).1
  have hkind : ∀ y ∈ ps.zip us, (defScope st).names.lookup y.1 = some .local ∨ ((defScope st).names.lookup y.1 = some .cell ∧ ((cellsFrom (s.heap.objs.size + 1) (defScope st).names []).lookup y.1).isSome = true) := fun ⟨n, v⟩ hy => by
    rcases S.par n (List.of_mem_zip hy).1 with q | q
    · exact .inl q
    · exact .inr ⟨q, PySem.W.cellsFrom_some _ _ _ (.inl q)⟩
  refine codeAny_call_function (by have := hr.dp; omega) (KX _ _ lk) rfl S.co S.gen rfl (PySem.W.codeRec_of KX hcd) (hb _ _ _ _ ?_)
  refine wpAny_newFunctionEnv_cells S.kind hkind fun env he s1 x => ?_
  subst he
  refine ⟨lim.keeps x.toInCall.keep, codeAny_func ?_⟩
  obtain ⟨t, ht, hq⟩ := hbody cdv A outer s H vs Q E (hr.deeper _) hsp
  have e1 : Env0 P w K mg base { A with handled := none } outer s H := ⟨e0.frames, e0.mod, e0.bs, e0.bsz, e0.funs, e0.frf, e0.hok, e0.bare⟩
  have I0 : Inv (cxOf CX0 P w K mg base N qual (defScope st) f cdv { A with handled := none } outer s H E) [] (start N vs) H s1 := inv_start S rfl e1 hl r x
  have I : Inv (cxH P w K mg base N qual (defScope st) f cdv A outer s H E) [] (start N vs) H s1 :=
    ⟨⟨I0.ok.mod, I0.ok.kind, I0.ok.glob, I0.ok.blt, I0.ok.above, I0.ok.inj, I0.ok.has, I0.ok.cab, (fun z => by cases z), Around.frames_deeper e0.frames, I0.ok.stk, I0.ok.exf, I0.ok.bs, I0.ok.bsz, I0.ok.noex, I0.ok.exfs, I0.ok.funs, I0.ok.frf⟩, I0.os, I0.bare, I0.base, I0.loc, I0.cell, I0.free, I0.freeC, I0.pin, I0.hok, I0.len⟩
  refine wpAny_mono (ht [] s1 (start N vs) H _ I hq) (fun fl s' hs => ?_) fun e s' hs => hs.elim
  have fin : ∀ {σ' : St} {H' : Hp} {v : V} {u : Value}, Inv (cxH P w K mg base N qual (defScope st) f cdv A outer s H E) [] σ' H' s' → RelV v u → Q v H' → CE outer P w H s Q u s' :=
    fun {σ' H' v u} J rv q => ⟨v, H', J.os, J.bare, J.base, J.hok, rv, q⟩
  cases fl with
  | ret u =>
    obtain ⟨v, σ', H', J, rv, q⟩ := hs
    exact fin J rv q
  | next =>
    obtain ⟨σ', H', J, q⟩ := hs
    exact fin (v := V.non) (u := Value.none) J rfl q
  | brk =>
    obtain ⟨_, _, _, q⟩ := hs
    exact False.elim q
  | cont =>
    obtain ⟨_, _, _, q⟩ := hs
    exact False.elim q
section
variable {X : Cx}
/-- the text of an error -/
theorem call_strG : CallR X (.type "str") (fun xs H Q => ∃ (a C f : Addr) (fd : FuncData) (k : Nat) (sp : Sp), xs = [.ref a] ∧ XAt H a C ∧ FnH X.prog X.w X.K X.mg X.base k f fd ["self"] sp ∧ Binds X.K fd ["self"] [] ∧ RoomH (k + 2) X.A ∧ findIn X.K (.ref C) "__str__" = some (some (.ref f)) ∧ isFn X.K (.ref f) = true ∧ sp [.ref a] H (fun v H' => ∃ z, v = .str z ∧ Q (.str z) H') E0) := by
  intro pins s σ H vs us Q I r h
  obtain ⟨a, C, f, fd, k, sp, rfl, ha, F, hb, hr, hs, hf, hsp⟩ := h
  rw [Vals.ref1 r]
  obtain ⟨o, oo, J⟩ := ha.inst I
  have hr2 : RoomH k X.A.in1.in1 := hr.in1.in1
  refine kso_call (by have := hr2.un; omega) I.kIn J hs hf ?_
  have hb' := hb s [.ref a] I.kIn rfl
  rw [List.append_nil] at hb'
  have e0 : Env0 X.prog X.w X.K X.mg X.base X.A.in1.in1 X.stack s H := I.env0.in1.in1
  refine wpAny_call (codeAny_mono (F.run _ X.stack s H ⟨[.ref a], []⟩ [.ref a] [.ref a] _ E0 hr2 e0 hb' (.cons rfl .nil) hsp) fun q s' hq => ?_)
  cases q with
  | error e => exact False.elim hq
  | ok fl =>
    cases fl with
    | ret u =>
      obtain ⟨v, H', I', rv, z, ev, q⟩ := I.after hq
      subst ev
      obtain ⟨t, rfl⟩ := rv
      exact ⟨.str z, H', I', ⟨t, rfl⟩, q⟩
    | next => exact False.elim hq
    | brk => exact False.elim hq
    | cont => exact False.elim hq
end
end L2


namespace L2
open PySem PySem.Spec PyProof.Rows PySem.W SS
/-! texts put together -/
theorem str_assoc (a b c : Str) : (a ++ b) ++ c = a ++ (b ++ c) := by
  show Str.append (Str.append a b) c = Str.append a (Str.append b c)
  unfold Str.append
  simp [Array.append_assoc]
theorem log_small {i : Int} (h : i.natAbs < 2 ^ 64) : i.natAbs.log2 < 1920 := by
  by_cases h0 : i.natAbs = 0
  · rw [h0]; decide
  · exact Nat.lt_of_lt_of_le ((Nat.log2_lt h0).mpr h) (by decide)
end L2
namespace L2
open PySem PySem.Spec PyProof.Rows PySem.W SS
end L2


namespace L2
open PySem PySem.Spec PyProof.Rows PySem.W SS
/-! error classes with fields, a text, or a text alone -/
def spErr (C : Addr) (fn : List Str) : Sp := fun vs H Q _ => ∃ (x : Addr) (us : List V), vs = .ref x :: us ∧ us.length = fn.length ∧ H x = some (ExcO true C x none) ∧
  ∀ (dx : Addr) (H' : Hp), H dx = none → H' x = some (ExcO true C x (some dx)) → H' dx = some (XdO dx (fn.zip us)) → (∀ b o, H b = some o → b ≠ x → H' b = some o) → Q .non H'
structure XOwn (K : Frag) (C : Addr) (fn : List Str) : Prop where
  cl : XCls K C
  is : XIsi K C
  no : ∀ f ∈ fn, NoAttr K C f
/-- how a field is told -/
def fmt1 (v : V) (z : Str) : Prop := (∃ i : Int, v = .int i ∧ i.natAbs.log2 < 1920 ∧ z = ((toString i : String) : Str)) ∨ (v = .str z ∧ z.length ≤ 100000) ∨ ∃ b : Bool, v = .bl b ∧ z = if b = true then "True" else "False"
theorem fmt_len {v : V} {z : Str} (h : fmt1 v z) : z.length ≤ 100000 := by
  rcases h with ⟨i, _, hz, rfl⟩ | ⟨_, h⟩ | ⟨b, _, rfl⟩
  · have := int_text_len_1921 hz; omega
  · exact h
  · cases b <;> decide +kernel
theorem fmt_r {v : V} {z : Str} {H : Hp} {Q : VK} (h : fmt1 v z) (q : Q (.str z) H) : rFmt v H Q := by
  rcases h with ⟨i, rfl, hz, rfl⟩ | ⟨rfl, h⟩ | ⟨b, rfl, rfl⟩
  · exact .inl ⟨i, rfl, hz, q⟩
  · exact .inr (.inl ⟨z, rfl, Nat.le_trans h (by decide), q⟩)
  · refine .inr (.inr ⟨b, rfl, ?_⟩)
    cases b <;> exact q
abbrev Fmts := Paired fmt1
def errTxt (cls : Str) (zs : List Str) : Str := zs.foldl (fun a z => a ++ (" " : Str) ++ z) cls
def spXS (C : Addr) (cls : Str) (fn : List Str) : Sp := fun vs H Q _ => ∃ (x dx : Addr) (nw : Bool) (us : List V) (zs : List Str), vs = [.ref x] ∧ us.length = fn.length ∧ H x = some (ExcO nw C x (some dx)) ∧ H dx = some (XdO dx (fn.zip us)) ∧ Fmts us zs ∧ Q (.str (errTxt cls zs)) H
def spXS0 (C : Addr) (cls : Str) : Sp := fun vs H Q _ => ∃ (x : Addr) (nw : Bool), vs = [.ref x] ∧ H x = some (ExcO nw C x none) ∧ Q (.str cls) H
structure XStr (P : Program) (w : World) (K : Frag) (mg : Str → Option Value) (base : Heap) (C : Addr) (sp : Sp) : Prop where
  ex : ∃ f fd, FnH P w K mg base 1 f fd ["self"] sp ∧ Binds K fd ["self"] [] ∧ findIn K (.ref C) "__str__" = some (some (.ref f)) ∧ isFn K (.ref f) = true
/-- all that is known of an error class with fields -/
structure XF (P : Program) (w : World) (K : Frag) (mg : Str → Option Value) (base : Heap) (nm : Str) (C : Addr) (fn : List Str) : Prop where
  mad : ∃ f fd, XMk K C f ∧ FnOk P w K mg base CX0 1 f fd ("self" :: fn) (spErr C fn) ∧ Binds K fd ("self" :: fn) []
  st : XStr P w K mg base C (spXS C nm fn)
  own : XOwn K C fn
  mgC : mg nm = some (.ref C)
structure XF0 (P : Program) (w : World) (K : Frag) (mg : Str → Option Value) (base : Heap) (nm : Str) (C : Addr) : Prop where
  mad : XMk0 K C
  st : XStr P w K mg base C (spXS0 C nm)
  is : XIsi K C
  mgC : mg nm = some (.ref C)
theorem XF.ec {P : Program} {w : World} {K : Frag} {mg : Str → Option Value} {base : Heap} {nm : Str} {C : Addr} {fn : List Str} (h : XF P w K mg base nm C fn) : excC K C = true := by
  obtain ⟨f, fd, M, _⟩ := h.mad
  exact M.ec
section
variable {X : Cx} {C : Addr} {nm : Str} {fn : List Str} {p pos : Pos} {e : Expr} {es : List Expr} {t : TA}
/-- an error made of its fields -/
def tXm (C : Addr) (fn : List Str) (t : TA) : TE := fun σ H Q => t σ H fun us H1 => us.length = fn.length ∧ ∀ (x dx : Addr) (H2 : Hp), Same H1 H2 → H1 x = none → x ≠ dx → H2 x = some (ExcO true C x (some dx)) → H2 dx = some (XdO dx (fn.zip us)) → Q (.ref x) H2
theorem pe_xm (h : XF X.prog X.w X.K X.mg X.base nm C fn) (hr : Room 2 X.A) (hg : Gl X nm) (hp : fn.length ≤ 90) (ha : PA X (e :: es) t) (hdb : (nm == ("__debug__" : Str)) = false := by decide)
    (he : starEach (e :: es) X.env = (false, eval e X.env) :: starEach es X.env := by rfl) (hpl : (backTo pos (starEach es X.env)).any (·.1) = false := by rfl) : PE X (.Call (.Name nm p) (e :: es) [] pos) (tXm C fn t) := by
  obtain ⟨f, fd, M, F, hb⟩ := h.mad
  intro pins s σ H Q I hw
  refine wpAny_Call_Name_kw (ld_glob I hg h.mgC ?_ hdb)
  refine PySem.W.callWith_K (h₀ := X.base) I.ok.mod.kin M.kp (thn (ha pos pins s σ H _ I hw) fun us s1 ⟨vs, H1, I1, r, hl, q⟩ => ⟨I1.kIn, ?_⟩) he hpl
  refine run_xmake M F hr hb I1 r ?_ fun x hx => ?_
  · have := r.length
    show us.length ≤ 100
    omega
  · refine ⟨x, vs, rfl, hl, upd_same, fun dx H' hd e1 e2 kp => ⟨rfl, ?_⟩⟩
    obtain ⟨xd, hd0⟩ := new_ne hd
    refine q x dx H' (fun b o eb => kp b o ?_ (ne_of_none eb hx)) hx xd e1 e2
    rw [upd_ne (ne_of_none eb hx)]
    exact eb
theorem pe_xm0 (h : XF0 X.prog X.w X.K X.mg X.base nm C) (hg : Gl X nm) (hdb : (nm == ("__debug__" : Str)) = false := by decide) : PE X (.Call (.Name nm p) [] [] pos) (tXMake0 C) := pe_xmake0 h.mad hg h.mgC hdb
/-- str of a number, a text, a truth -/
theorem call_strS : CallR X (.type "str") (fun xs H Q => ∃ v z, xs = [v] ∧ fmt1 v z ∧ Q (.str z) H) := by
  intro pins s σ H xs us Q I r h
  obtain ⟨v, z, rfl, hf, q⟩ := h
  obtain ⟨u, rfl, r1⟩ := vals1 r
  rcases hf with ⟨i, rfl, hz, rfl⟩ | ⟨rfl, hz⟩ | ⟨b, rfl, rfl⟩
  · obtain ⟨t, rfl⟩ := r1
    exact PySem.P.str_of_int hz ⟨.str _, H, I.tok _, ⟨_, rfl⟩, q⟩
  · obtain ⟨t, rfl⟩ := r1
    exact PySem.P.str_of_str ⟨.str _, H, I, ⟨_, rfl⟩, q⟩
  · cases r1
    refine PySem.P.str_of_bool ⟨.str _, H, I.tok _, ⟨_, rfl⟩, ?_⟩
    cases b <;> exact q
/-- str of an error, by what is known of its class -/
def rStrX (P : Program) (w : World) (K : Frag) (mg : Str → Option Value) (base : Heap) : List V → Hp → VK → Prop := fun xs H Q =>
  (∃ (a dx C : Addr) (nm : Str) (fn : List Str) (nw : Bool) (us : List V) (zs : List Str), xs = [.ref a] ∧ XStr P w K mg base C (spXS C nm fn) ∧ us.length = fn.length ∧ H a = some (ExcO nw C a (some dx)) ∧ H dx = some (XdO dx (fn.zip us)) ∧ Fmts us zs ∧ Q (.str (errTxt nm zs)) H) ∨
  ∃ (a C : Addr) (nm : Str) (nw : Bool), xs = [.ref a] ∧ XStr P w K mg base C (spXS0 C nm) ∧ H a = some (ExcO nw C a none) ∧ Q (.str nm) H
theorem call_strE (hr : RoomH 3 X.A) : CallR X (.type "str") (rStrX X.prog X.w X.K X.mg X.base) := by
  intro pins s σ H xs us Q I r h
  refine call_strG pins s σ H xs us Q I r ?_
  rcases h with ⟨a, dx, C, nm, fn, nw, us', zs, rfl, ⟨f, fd, F, hb, hs, hf⟩, hl, ha, hd, hz, q⟩ | ⟨a, C, nm, nw, rfl, ⟨f, fd, F, hb, hs, hf⟩, ha, q⟩
  · exact ⟨a, C, f, fd, 1, _, rfl, .some ha hd, F, hb, hr, hs, hf, a, dx, nw, us', zs, rfl, hl, ha, hd, hz, _, rfl, q⟩
  · exact ⟨a, C, f, fd, 1, _, rfl, .none ha, F, hb, hr, hs, hf, a, nw, rfl, ha, _, rfl, q⟩
end
end L2
namespace L2
open PySem PySem.Spec PyProof.Rows PySem.W SS
theorem spErr_len {C : Addr} {fn : List Str} {vs : List V} {H : Hp} {Q : VK} {E : XK} (h : spErr C fn vs H Q E) : vs.length = (("self" : Str) :: fn).length := by
  obtain ⟨x, us, rfl, hl, _⟩ := h
  rw [List.length_cons, List.length_cons, hl]
end L2
namespace L2
open PySem PySem.Spec PyProof.Rows PySem.W SS
theorem join_len (y : Str) : ∀ zs : List Str, (Str.join y zs).length ≤ (zs.map (·.length)).sum + zs.length * y.length
  | [] => by simp [Str.join]; rfl
  | [x] => by simp [Str.join]
  | x :: z :: r => by
    have ih := join_len y (z :: r)
    rw [show Str.join y (x :: z :: r) = x ++ y ++ Str.join y (z :: r) from rfl, strLen_append, strLen_append, List.map_cons, List.sum_cons, List.length_cons, Nat.succ_mul]
    omega
theorem errTxt_app (a : Str) : ∀ (zs : List Str) (b : Str), errTxt (a ++ b) zs = a ++ errTxt b zs
  | [], b => rfl
  | z :: r, b => by
    show errTxt (a ++ b ++ (" " : Str) ++ z) r = a ++ errTxt (b ++ (" " : Str) ++ z) r
    rw [← errTxt_app a r, str_assoc a, str_assoc a, str_assoc b]
theorem join_errTxt : ∀ (zs : List Str) (n : Str), Str.join (" " : Str) (n :: zs) = errTxt n zs
  | [], n => rfl
  | z :: r, n => by
    show n ++ (" " : Str) ++ Str.join (" " : Str) (z :: r) = errTxt (n ++ (" " : Str) ++ z) r
    rw [join_errTxt r z, errTxt_app]
theorem Fmts.get {us : List V} {zs : List Str} (h : Fmts us zs) : ∀ {j : Nat} {v : V}, us[j]? = some v → ∃ z, zs[j]? = some z ∧ fmt1 v z := by
  induction h with
  | nil => intro j v e; simp at e
  | cons h t ih =>
    intro j v e
    cases j with
    | zero => cases e; exact ⟨_, rfl, h⟩
    | succ j => exact ih e
theorem Fmts.lens {us : List V} {zs : List Str} (h : Fmts us zs) : zs.length = us.length ∧ (zs.map (·.length)).sum ≤ us.length * 100000 := by
  induction h with
  | nil => exact ⟨rfl, by simp⟩
  | cons h t ih =>
    have := fmt_len h
    refine ⟨by simp [ih.1], ?_⟩
    rw [List.map_cons, List.sum_cons, List.length_cons, Nat.succ_mul]
    omega
end L2
namespace L2
open PySem PySem.Spec PyProof.Rows PySem.W SS
/-! texts that may be laid -/
theorem strOk_ofs (s : String) : PyData.strOk (Str.ofString s) = true := by
  rw [Str.ofString_eq_toList]
  unfold PyData.strOk
  rw [Array.all_eq_true']
  intro n hn
  obtain ⟨c, _, rfl⟩ := List.mem_map.mp (List.mem_toArray.mp hn)
  have h := c.valid
  simp only [UInt32.isValidChar, Nat.isValidChar] at h
  have : c.toNat = c.val.toNat := rfl
  exact decide_eq_true (by omega)
theorem strOk_app {a b : Str} (ha : PyData.strOk a = true) (hb : PyData.strOk b = true) : PyData.strOk (a ++ b) = true := by
  show PyData.strOk (Str.append a b) = true
  unfold PyData.strOk Str.append at *
  rw [Array.all_append, ha, hb]
  rfl
theorem strOk_join (y : Str) (hy : PyData.strOk y = true) : ∀ {zs : List Str}, (∀ z ∈ zs, PyData.strOk z = true) → PyData.strOk (Str.join y zs) = true
  | [], _ => by rw [show Str.join y [] = Str.empty from rfl]; decide +kernel
  | [x], h => h x (List.mem_cons_self ..)
  | x :: z :: r, h => strOk_app (strOk_app (h x (List.mem_cons_self ..)) hy) (strOk_join y hy fun q hq => h q (List.mem_cons_of_mem _ hq))
theorem shaped_of {d : PyData} (h : d.canLay0 = true) (hd : d.depth ≤ 64) : SeqAt.shaped d = true := by
  unfold SeqAt.shaped
  rw [h, decide_eq_true hd]
  rfl
theorem ne_tup {K : Frag} {H : Hp} {t u : Addr} {xs : List V} {ds : List PyData} {Q : VK} (ht : H t = some (.tup xs)) (hu : H u = some (.tup xs)) (hd : DpAll K H xs ds) (hl : PyData.canLay0 (.tuple ds) = true) (hp : PyData.depth (.tuple ds) ≤ 64) (q : Q (.bl false) H) : rNeD K (.ref t) (.ref u) H Q := by
  refine ⟨_, _, .tup (SqT.of ht) hd, .tup (SqT.of hu) hd, shaped_of hl hp, shaped_of hl hp, ?_⟩
  rw [SeqAt.eqv_refl _ hl]
  exact q
theorem ne_lst {K : Frag} {H : Hp} {t u : Addr} {xs : List V} {ds : List PyData} {Q : VK} (ht : H t = some (.lst xs)) (hu : H u = some (.lst xs)) (hd : DpAll K H xs ds) (hl : PyData.canLay0 (.list ds) = true) (hp : PyData.depth (.list ds) ≤ 64) (q : Q (.bl false) H) : rNeD K (.ref t) (.ref u) H Q := by
  refine ⟨_, _, .lst (SqL.of ht) hd, .lst (SqL.of hu) hd, shaped_of hl hp, shaped_of hl hp, ?_⟩
  rw [SeqAt.eqv_refl _ hl]
  exact q
theorem eq_lst {K : Frag} {H : Hp} {t u : Addr} {xs : List V} {ds : List PyData} {Q : VK} (ht : H t = some (.lst xs)) (hu : H u = some (.lst xs)) (hd : DpAll K H xs ds) (hl : PyData.canLay0 (.list ds) = true) (hp : PyData.depth (.list ds) ≤ 64) (q : Q (.bl true) H) : rEqD K (.ref t) (.ref u) H Q := by
  refine ⟨_, _, .lst (SqL.of ht) hd, .lst (SqL.of hu) hd, shaped_of hl hp, shaped_of hl hp, ?_⟩
  rw [SeqAt.eqv_refl _ hl]
  exact q
end L2
namespace L2
open PySem PySem.Spec PyProof.Rows PySem.W SS
/-! lists of texts -/
theorem dp_strs {K : Frag} {H : Hp} : ∀ zs : List Str, DpAll K H (zs.map V.str) (zs.map PyData.str)
  | [] => .nil
  | z :: r => .cons (.str z) (dp_strs r)
theorem lay_strs : ∀ {zs : List Str}, (∀ z ∈ zs, PyData.strOk z = true) → PyData.canLayAll0 (zs.map PyData.str) = true
  | [], _ => rfl
  | z :: r, h => by
    show (PyData.strOk z && PyData.canLayAll0 (r.map PyData.str)) = true
    rw [h z (List.mem_cons_self ..), lay_strs fun y hy => h y (List.mem_cons_of_mem _ hy)]
    rfl
theorem deep_strs : ∀ zs : List Str, PyData.depthAll (zs.map PyData.str) = 0
  | [] => rfl
  | z :: r => by
    show max (PyData.depth (.str z)) (PyData.depthAll (r.map PyData.str)) = 0
    rw [deep_strs r]; rfl
theorem strs_deep (zs : List Str) : PyData.depth (.list (zs.map PyData.str)) ≤ 64 := by
  show PyData.depthAll (zs.map PyData.str) + 1 ≤ 64
  rw [deep_strs]; decide
theorem ne_strs {K : Frag} {H : Hp} {t u : Addr} {zs : List Str} {Q : VK} (ht : H t = some (.lst (zs.map V.str))) (hu : H u = some (.lst (zs.map V.str))) (h : ∀ z ∈ zs, PyData.strOk z = true) (q : Q (.bl false) H) : rNeD K (.ref t) (.ref u) H Q :=
  ne_lst ht hu (dp_strs zs) (lay_strs h) (strs_deep zs) q
theorem eq_strs {K : Frag} {H : Hp} {t u : Addr} {zs : List Str} {Q : VK} (ht : H t = some (.lst (zs.map V.str))) (hu : H u = some (.lst (zs.map V.str))) (h : ∀ z ∈ zs, PyData.strOk z = true) (q : Q (.bl true) H) : rEqD K (.ref t) (.ref u) H Q :=
  eq_lst ht hu (dp_strs zs) (lay_strs h) (strs_deep zs) q
end L2
namespace L2
open PySem PySem.Spec PyProof.Rows PySem.W SS
def tXm0 (C : Addr) : TE := fun _ H Q => ∀ (x : Addr) (H2 : Hp), Same H H2 → H x = none → H2 x = some (ExcO true C x none) → Q (.ref x) H2
theorem pe_xmZ {X : Cx} {nm : Str} {C : Addr} {p pos : Pos} (h : XF0 X.prog X.w X.K X.mg X.base nm C) (hg : Gl X nm) (hdb : (nm == ("__debug__" : Str)) = false := by decide) : PE X (.Call (.Name nm p) [] [] pos) (tXm0 C) := fun pins s σ H Q I hw =>
  pe_xm0 h hg hdb pins s σ H Q I fun x hx => hw x _ (same_new hx) hx upd_same
end L2


namespace L2
open PySem PySem.Spec PyProof.Rows PySem.W SS
/-- own classes, then a line of built-in ones -/
def lmro (bm : List Value) : List Value → Bool
  | [] => false
  | v :: r => (v :: r) == bm || (match v with
    | .ref _ => lmro bm r
    | _ => false)
theorem lmro_ro {bm : List Value} (hb : ∀ self, refuseLoop self "__setattr__" bm = pure ()) (self : Value) : ∀ {l : List Value}, lmro bm l = true → refuseLoop self "__setattr__" l = pure ()
  | [], e => by cases e
  | v :: r, e => by
    unfold lmro at e
    rcases Bool.or_eq_true_iff.mp e with e | e
    · rw [beq_iff_eq.mp e]; exact hb self
    · split at e
      · rw [refuseLoop_ref]; exact lmro_ro hb self e
      · cases e
def roInB (K : Frag) (bm : List Value) (C : Addr) : Bool := match clsIn K C with
  | some cd => lmro bm cd.mro
  | none => false
theorem roB_of {K : Frag} {bm : List Value} {C : Addr} (hb : ∀ self, refuseLoop self "__setattr__" bm = pure ()) (h : roInB K bm C = true) : ∃ cd, clsIn K C = some cd ∧ ∀ self, refuseLoop self "__setattr__" cd.mro = pure () := by
  unfold roInB at h
  split at h
  · rename_i cd e
    exact ⟨cd, e, fun self => lmro_ro hb self h⟩
  · cases h
abbrev bmV : List Value := [.type "ValueError", .type "Exception", .type "BaseException", .type "object"]
abbrev bmL : List Value := [.type "LookupError", .type "Exception", .type "BaseException", .type "object"]
abbrev bmK : List Value := [.type "KeyError", .type "LookupError", .type "Exception", .type "BaseException", .type "object"]
abbrev bmR : List Value := [.type "RuntimeError", .type "Exception", .type "BaseException", .type "object"]
theorem psV (self : Value) : refuseLoop self "__setattr__" bmV = pure () := PySem.F.store_ValueError.passes self
theorem psL (self : Value) : refuseLoop self "__setattr__" bmL = pure () := by kernel_rfl
theorem psK (self : Value) : refuseLoop self "__setattr__" bmK = pure () := by kernel_rfl
section
variable {K : Frag} {C fI : Addr} {newId inN : String} {B : String} {bm : List Value}
theorem xmkB (F : ExcBaseFacts B newId inN bm) (h : excInI K C fI bm newId = true) (i : isFn K (.ref fI) = true) (k : keepIn K (.ref C) = true) : XMk K C fI := ⟨⟨_, _, _, _, _, _, h, F, F.hasB, line_of F⟩, i, k⟩
theorem xmkK (h : excInI K C fI bmK "LookupError.__new__" = true) (i : isFn K (.ref fI) = true) (k : keepIn K (.ref C) = true) : XMk K C fI := ⟨⟨_, _, _, _, _, _, h, PySem.F.excBase_LookupError, by decide +kernel, keyLine⟩, i, k⟩
theorem xmk0B (F : ExcBaseFacts B newId inN bm) (h : excIn K C bm newId = true) (k : keepIn K (.ref C) = true) : XMk0 K C := ⟨⟨_, _, _, _, _, _, _, _, h, F, F.hasB, F⟩, k⟩
end
end L2


namespace K21
open PySem L2 SS
def top (i : Nat) : Stmt := PySem.Challenge.pw_latestow_k21_each_refusal.main.body.getD i (.Pass ⟨0, 0, 0, 0⟩)
abbrev sIShort : Stmt := inClass (top 3) 0
abbrev sSShort : Stmt := inClass (top 3) 1
abbrev sIBadSize : Stmt := inClass (top 4) 0
abbrev sSBadSize : Stmt := inClass (top 4) 1
abbrev sIBadPath : Stmt := inClass (top 5) 0
abbrev sSBadPath : Stmt := inClass (top 5) 1
abbrev sIBadPage : Stmt := inClass (top 6) 0
abbrev sSBadPage : Stmt := inClass (top 6) 1
abbrev sIBadMany : Stmt := inClass (top 7) 0
abbrev sSBadMany : Stmt := inClass (top 7) 1
abbrev sIBadOwner : Stmt := inClass (top 8) 0
abbrev sSBadOwner : Stmt := inClass (top 8) 1
abbrev sITaken : Stmt := inClass (top 9) 0
abbrev sSTaken : Stmt := inClass (top 9) 1
abbrev sICrowded : Stmt := inClass (top 10) 0
abbrev sSCrowded : Stmt := inClass (top 10) 1
abbrev sINotEmpty : Stmt := inClass (top 11) 0
abbrev sSNotEmpty : Stmt := inClass (top 11) 1
abbrev sIUnsettled : Stmt := inClass (top 12) 0
abbrev sSUnsettled : Stmt := inClass (top 12) 1
abbrev sINoRoom : Stmt := inClass (top 13) 0
abbrev sSNoRoom : Stmt := inClass (top 13) 1
abbrev sIOverLimit : Stmt := inClass (top 14) 0
abbrev sSOverLimit : Stmt := inClass (top 14) 1
abbrev sIGraceOver : Stmt := inClass (top 15) 0
abbrev sSGraceOver : Stmt := inClass (top 15) 1
abbrev sIDry : Stmt := inClass (top 16) 0
abbrev sSDry : Stmt := inClass (top 16) 1
abbrev sSGone : Stmt := inClass (top 17) 0
abbrev sSStale : Stmt := inClass (top 18) 0
abbrev sSUnplayed : Stmt := inClass (top 19) 0
abbrev sSNotHere : Stmt := inClass (top 20) 0
abbrev sSBadLine : Stmt := inClass (top 21) 0
abbrev sIUndone : Stmt := inClass (top 22) 0
abbrev sSUndone : Stmt := inClass (top 22) 1
abbrev sINoFile : Stmt := inClass (top 23) 0
abbrev sSNoFile : Stmt := inClass (top 23) 1
abbrev sINoFolder : Stmt := inClass (top 24) 0
abbrev sSNoFolder : Stmt := inClass (top 24) 1
abbrev sINoPledge : Stmt := inClass (top 25) 0
abbrev sSNoPledge : Stmt := inClass (top 25) 1
abbrev sSCut : Stmt := inClass (top 26) 0
abbrev sBag : Stmt := top 28
abbrev sPull : Stmt := top 29
abbrev sSign : Stmt := top 30
abbrev sName : Stmt := top 31
abbrev sErr : Stmt := top 32
abbrev sFie : Stmt := top 33
abbrev sTex : Stmt := top 34
abbrev sTak : Stmt := top 35
abbrev sLaw : Stmt := top 36
structure Txt (K : PySem.W.Frag) (mg : Str → Option Value) : Prop where
  len : mg "len" = none
  list : mg "list" = none
  range : mg "range" = none
  isi : mg "isinstance" = none
  str : mg "str" = none
  ve : mg "ValueError" = none
  le : mg "LookupError" = none
  ke : mg "KeyError" = none
  re : mg "RuntimeError" = none
section
variable {P : Program} {w : World} {K : PySem.W.Frag} {mg : Str → Option Value} {base : Heap}
theorem scBag : FnScope ["_law_script"] ["_law_script"] (defScope sBag) := ⟨rfl, rfl, rfl, by decide +kernel, rfl, by decide +kernel, by decide +kernel⟩
theorem ok_bag {f : Addr} {fd : FuncData} (F : Fun K "_law_bag" "_law_bag" sBag f fd) (T : Txt K mg) : FnOk P w K mg base CX0 1 f fd ["_law_script"] (spBag K) := by
  refine F.ok scBag (fun vs H Q E h => ?_) (fun cdv A outer s H vs Q E hr h => ?_)
  · obtain ⟨a, ns, rfl, _⟩ := h; rfl
  · obtain ⟨a, ns, rfl, ha, k⟩ := h
    refine ⟨_, pss_one (ps_ret (pe_lst (pa_cons (pe_callTy call_list_of (by rfl) T.list (by decide +kernel) (pa_cons (pe_slice sl_list (pv 0) po_none (po_some pe_int)) pa_nil)) (pa_cons pe_int (pa_cons pe_int (pa_cons pe_int pa_nil)))))), ?_⟩
    refine ⟨_, rfl, 63, rfl, a, _, rfl, ha, fun p hp => ?_⟩
    refine ⟨p, _, rfl, .inl (SqL.of upd_same), fun l hl => ⟨by show 4 ≤ sizeLine; decide, fun b hb => ?_⟩⟩
    have lp : p ≠ l := fun e => by rw [← e, upd_same] at hl; cases hl
    have hl0 : H l = none := by rw [upd_ne lp.symm] at hl; exact hl
    have bl : l ≠ b := fun e => by rw [← e, upd_same] at hb; cases hb
    have hb1 := hb
    rw [upd_ne bl.symm] at hb1
    have bp : p ≠ b := fun e => by rw [← e, upd_same] at hb1; cases hb1
    have hb0 : H b = none := by rw [upd_ne bp.symm] at hb1; exact hb1
    refine k b l _ (fun c o e => ?_) hb0 hl0 ⟨ns.take 63, 0, 0, 7, upd_same, ?_, by decide, by rw [List.length_take]; omega⟩
    · rw [upd_ne (ne_of_none e hb0), upd_ne (ne_of_none e hl0), upd_ne (ne_of_none e hp)]; exact e
    · rw [upd_ne bl, upd_same]
      congr 2
      unfold cutV
      simp only [HT.sIx, List.length_map]
      rw [if_neg (by decide), List.drop_zero, Nat.sub_zero, List.map_take]
      show List.take (min 63 ns.length) _ = _
      rw [← List.length_map (f := V.int) (as := ns), ← List.take_eq_take_min]
theorem scPull : FnScope ["_law_bag_here", "_law_top", "_law_cell", "_law_got"] ["_law_bag_here", "_law_top"] (defScope sPull) := ⟨rfl, rfl, rfl, by decide +kernel, rfl, by decide +kernel, by decide +kernel⟩
theorem ok_pull {f : Addr} {fd : FuncData} (F : Fun K "_law_pull" "_law_pull" sPull f fd) (T : Txt K mg) : FnOk P w K mg base CX0 1 f fd ["_law_bag_here", "_law_top"] spPull := by
  refine F.ok scPull (fun vs H Q E h => ?_) (fun cdv A outer s H vs Q E hr h => ?_)
  · obtain ⟨b, c, t, rfl, _⟩ := h; rfl
  · obtain ⟨b, c, t, rfl, t0, t1, ⟨ns, i, x, y, hb, hc, hi, hn⟩, k⟩ := h
    refine ⟨_, pss_cut (ps_if (pt_cmpR op_lt (pe_ix ix_list (pv 0) pe_int (fun _ _ => rfl)) pe_int (nomark _))
        (pss_cons (ps_set (i := 2) scPull.nd rfl (Or.inl rfl) pe_int)
        (pss_cut (ps_if (pt_cmpR op_lt (pe_ix ix_list (pv 0) pe_int (fun _ _ => rfl)) (pe_callB call_len_seq (by rfl) T.len PySem.boot_len (pa_cons (pe_ix ix_list (pv 0) pe_int (fun _ _ => rfl)) pa_nil)) (nomark _))
            (pss_one (ps_set (i := 2) scPull.nd rfl (Or.inl rfl) (pe_ix ix_list (pe_ix ix_list (pv 0) pe_int (fun _ _ => rfl)) (pe_ix ix_list (pv 0) pe_int (fun _ _ => rfl)) (fun _ _ => rfl)))) pss_nil)
        (pss_cons (ps_augS (pv 0) pe_int get_list pe_int iop_add set_list)
        (pss_cons (ps_if (pt_cmpR op_lt (pv 2) (pe_op op_pow pe_int pe_int) (nomark _))
            (pss_cons (ps_asg (pe_op op_mod (pe_op op_add (pe_op op_add (pe_op op_mul (pe_ix ix_list (pv 0) pe_int (fun _ _ => rfl)) pe_int) (pe_op op_mul (pv 2) pe_int)) pe_int) pe_int) (pg_sub (pv 0) pe_int set_list))
            (pss_one (ps_ret (pe_op op_mod (pe_op op_fdivL (pe_ix ix_list (pv 0) pe_int (fun _ _ => rfl)) pe_int) (pv 1))))) pss_nil)
        (pss_one (ps_asg (pe_op op_sub (pv 2) (pe_op op_pow pe_int pe_int)) (pg_sub (pv 0) pe_int set_list))))))) pss_nil)
      (pss_cons (ps_set (i := 3) scPull.nd rfl (Or.inl rfl) (pe_op op_mod (pe_ix ix_list (pv 0) pe_int (fun _ _ => rfl)) (pv 1)))
      (pss_cons (ps_asg (pe_op op_fdivL (pe_ix ix_list (pv 0) pe_int (fun _ _ => rfl)) (pv 1)) (pg_sub (pv 0) pe_int set_list))
      (pss_one (ps_ret (pv 3))))), ?_⟩
    have cb : c ≠ b := fun e => by
      subst e
      rw [hb] at hc
      cases ns with
      | nil => cases hc
      | cons z r => cases hc
    have fin : ∀ (v i' x' y' : Int) (H1 : Hp), 0 ≤ v → v < t → 0 ≤ i' → (∀ o, upd H1 b o = upd H b o) → Q (.int v) (upd H1 b (.lst [.ref c, .int i', .int x', .int y'])) := fun v i' x' y' H1 h0 h1 h2 h3 => by
      rw [h3]
      exact k v _ h0 h1 ⟨ns, i', x', y', upd_same, by rw [upd_ne cb]; exact hc, h2, hn⟩
    have mod0 : ∀ z : Int, 0 ≤ z % t ∧ z % t < t := fun z => ⟨Int.emod_nonneg _ (by omega), Int.emod_lt_of_pos _ t0⟩
    refine ⟨fun σ' H' => ∃ (i' x' y' : Int) (vc : Option V), 0 ≤ i' ∧ σ' = [some (.ref b), some (.int t), vc, none] ∧ H' b = some (.lst [.ref c, .int i', .int x', .int y']) ∧ ∀ o, upd H' b o = upd H b o, ?_, ?_⟩
    · refine ⟨_, rfl, b, _, 2, .int x, rfl, rfl, SqL.of hb, rfl, x, 1, rfl, rfl, _, rfl, ?_⟩
      refine ite2 (fun hx => ?_) (fun hx => ⟨i, x, y, none, hi, rfl, hb, fun _ => rfl⟩)
      -- cell = 0; if bag[1] < len(bag[0])
      refine ⟨fun σ' H' => ∃ cell : Int, σ' = [some (.ref b), some (.int t), some (.int cell), none] ∧ H' = H, ?_, ?_⟩
      · refine ⟨_, rfl, b, _, 1, .int i, rfl, rfl, SqL.of hb, rfl, _, rfl, b, _, 0, .ref c, rfl, rfl, SqL.of hb, rfl, c, _, rfl, .inl (SqL.of hc), i, _, rfl, rfl, _, rfl, ?_⟩
        refine ite2 (fun h2 => ?_) (fun h2 => ⟨0, rfl, rfl⟩)
        have h3 : i < ((ns.map V.int).length : Int) := of_decide_eq_true h2
        rw [List.length_map] at h3
        have h4 : i.toNat < ns.length := by omega
        refine ⟨_, rfl, b, _, 0, .ref c, rfl, rfl, SqL.of hb, rfl, _, rfl, b, _, 1, .int i, rfl, rfl, SqL.of hb, rfl, c, _, i, .int ns[i.toNat], rfl, rfl, SqL.of hc, ?_, ⟨_, rfl, rfl⟩⟩
        exact atI_int hi (by simp [h4])
      · rintro σ' H' ⟨cell, rfl, rfl⟩
        refine ⟨_, rfl, b, _, 1, .int i, rfl, rfl, by decide, SqL.of hb, rfl, i, 1, rfl, rfl, b, _, 1, 1, rfl, rfl, hb, rfl, ?_⟩
        have u1 : ∀ o o', upd (upd H' b o) b o' = upd H' b o' := fun o o' => upd_upd
        -- if cell < 10 ** 18
        refine ⟨_, rfl, 10, 18, rfl, rfl, ⟨by decide, by decide, by decide⟩, _, _, rfl, rfl, _, rfl, ?_⟩
        refine ite2 (fun h2 => ?_) (fun h2 => ?_)
        · refine ⟨_, rfl, b, _, 3, .int y, rfl, rfl, SqL.of upd_same, rfl, _, _, rfl, rfl, .inr ⟨by decide, by decide⟩, _, rfl, _, _, rfl, rfl, .inr ⟨by decide, by decide⟩, _, _, rfl, rfl, _, _, rfl, rfl, _, _, rfl, rfl, (by show (0 : Int) < 2147483647; decide), ?_⟩
          refine ⟨_, rfl, b, _, 3, 3, rfl, rfl, upd_same, rfl, ?_⟩
          refine ⟨_, rfl, b, _, 3, .int _, rfl, rfl, SqL.of upd_same, rfl, _, _, rfl, rfl, ⟨by decide, by decide⟩, _, rfl, _, _, rfl, rfl, t0, ?_⟩
          rw [u1]
          exact fin _ (i + 1) x _ H' (mod0 _).1 (mod0 _).2 (by omega) fun _ => rfl
        · refine ⟨_, rfl, 10, 18, rfl, rfl, ⟨by decide, by decide, by decide⟩, _, _, rfl, rfl, _, rfl, b, _, 2, 2, rfl, rfl, upd_same, rfl, ?_⟩
          exact ⟨i + 1, _, y, _, by omega, rfl, upd_same, fun o => by rw [u1, u1]⟩
    · rintro σ' H' ⟨i', x', y', vc, h0, rfl, h1, h2⟩
      refine ⟨_, rfl, b, _, 2, .int x', rfl, rfl, SqL.of h1, rfl, _, rfl, _, _, rfl, rfl, t0, ?_⟩
      refine ⟨_, rfl, b, _, 2, .int x', rfl, rfl, SqL.of h1, rfl, _, rfl, _, _, rfl, rfl, ⟨t0, t1⟩, _, rfl, b, _, 2, 2, rfl, rfl, h1, rfl, _, rfl, ?_⟩
      exact fin _ i' _ y' H' (mod0 _).1 (mod0 _).2 h0 h2
theorem scIShort : FnScope ["self", "asked", "there"] ["self", "asked", "there"] (defScope sIShort) := ⟨rfl, rfl, rfl, by decide +kernel, rfl, by decide +kernel, by decide +kernel⟩
theorem okIShort {f C : Addr} {fd : FuncData} (F : Fun K "__init__" "Short.__init__" sIShort f fd) (c : XOwn K C ["asked", "there"]) : FnOk P w K mg base CX0 1 f fd ["self", "asked", "there"] (spErr C ["asked", "there"]) := by
  refine F.ok scIShort (fun vs H Q E h => spErr_len h) (fun cdv A outer s H vs Q E hr h => ?_)
  obtain ⟨x, us, rfl, hl, hx, k⟩ := h
  match us, hl, k with
  | [u0, u1], _, k =>
    refine ⟨_, pss_cons (ps_xfld (pv 0) (pv 1) rfl) (pss_one (ps_xfld (pv 0) (pv 2) rfl)), ?_⟩
    refine ⟨_, rfl, _, rfl, x, true, C, rfl, c.cl, c.no _ (by simp), .inl ⟨hx, fun dx hd => ?_⟩⟩
    have xd : x ≠ dx := ne_of_none hx hd
    refine ⟨_, rfl, _, rfl, x, true, C, rfl, c.cl, c.no _ (by simp), .inr ⟨dx, _, upd_same, by rw [upd_ne xd.symm, upd_same], (by show 1 < 1000; decide), ?_⟩⟩
    exact k dx _ hd (by rw [upd_ne xd, upd_same]) (by rw [upd_same]; rfl) fun b o e hb => by rw [upd_ne (ne_of_none e hd), upd_ne hb, upd_ne (ne_of_none e hd)]; exact e
theorem scSShort : FnScope ["self"] ["self"] (defScope sSShort) := ⟨rfl, rfl, rfl, by decide +kernel, rfl, by decide +kernel, by decide +kernel⟩
theorem okSShort {f C : Addr} {fd : FuncData} (F : Fun K "__str__" "Short.__str__" sSShort f fd) (c : XOwn K C ["asked", "there"]) : FnH P w K mg base 1 f fd ["self"] (spXS C "Short" ["asked", "there"]) := by
  refine F.okH scSShort (fun vs H Q E h => ?_) (fun cdv A outer s H vs Q E hr h => ?_)
  · obtain ⟨x, dx, nw, us, zs, rfl, _⟩ := h; rfl
  obtain ⟨x, dx, nw, us, zs, rfl, hl, hx, hd, hz, k⟩ := h
  match us, hl, zs, hz with
  | [u0, u1], _, [z0, z1], .cons h0 (.cons h1 (.nil)) =>
    have e0 : ("Short " : Str) = ("Short" : Str) ++ (" " : Str) := by decide +kernel
    have ln : ("Short " : Str).length = 6 := by decide +kernel
    have l1 : (" " : Str).length = 1 := by decide +kernel
    have qz : sizeLine = 16777216 := by decide
    have g0 := fmt_len h0
    have g1 := fmt_len h1
    refine ⟨_, pss_one (ps_ret (pe_fstr (pj_cons pe_str (pj_cons (pe_fv (pe_xfld (pv 0) rfl)) (pj_cons pe_str (pj_cons (pe_fv (pe_xfld (pv 0) rfl)) pj_nil)))))), ?_⟩
    refine ⟨_, rfl, by rw [Str.empty_append]; decide +kernel, _, rfl, x, nw, C, dx, _, _, rfl, hx, hd, c.is.toXGet, c.no _ (by simp), rfl, fmt_r h0 ⟨_, rfl, by simp only [Str.empty_append, strLen_append]; omega, ?_⟩⟩
    refine ⟨_, rfl, by simp only [Str.empty_append, strLen_append]; omega, _, rfl, x, nw, C, dx, _, _, rfl, hx, hd, c.is.toXGet, c.no _ (by simp), rfl, fmt_r h1 ⟨_, rfl, by simp only [Str.empty_append, strLen_append]; omega, ?_⟩⟩
    refine ⟨by simp only [Str.empty_append, strLen_append]; omega, ?_⟩
    rw [Str.empty_append, e0]
    exact k
theorem scIBadSize : FnScope ["self", "size"] ["self", "size"] (defScope sIBadSize) := ⟨rfl, rfl, rfl, by decide +kernel, rfl, by decide +kernel, by decide +kernel⟩
theorem okIBadSize {f C : Addr} {fd : FuncData} (F : Fun K "__init__" "BadSize.__init__" sIBadSize f fd) (c : XOwn K C ["size"]) : FnOk P w K mg base CX0 1 f fd ["self", "size"] (spErr C ["size"]) := by
  refine F.ok scIBadSize (fun vs H Q E h => spErr_len h) (fun cdv A outer s H vs Q E hr h => ?_)
  obtain ⟨x, us, rfl, hl, hx, k⟩ := h
  match us, hl, k with
  | [u0], _, k =>
    refine ⟨_, pss_one (ps_xfld (pv 0) (pv 1) rfl), ?_⟩
    refine ⟨_, rfl, _, rfl, x, true, C, rfl, c.cl, c.no _ (by simp), .inl ⟨hx, fun dx hd => ?_⟩⟩
    have xd : x ≠ dx := ne_of_none hx hd
    exact k dx _ hd upd_same (by rw [upd_ne xd.symm, upd_same]; rfl) fun b o e hb => by rw [upd_ne hb, upd_ne (ne_of_none e hd)]; exact e
theorem scSBadSize : FnScope ["self"] ["self"] (defScope sSBadSize) := ⟨rfl, rfl, rfl, by decide +kernel, rfl, by decide +kernel, by decide +kernel⟩
theorem okSBadSize {f C : Addr} {fd : FuncData} (F : Fun K "__str__" "BadSize.__str__" sSBadSize f fd) (c : XOwn K C ["size"]) : FnH P w K mg base 1 f fd ["self"] (spXS C "BadSize" ["size"]) := by
  refine F.okH scSBadSize (fun vs H Q E h => ?_) (fun cdv A outer s H vs Q E hr h => ?_)
  · obtain ⟨x, dx, nw, us, zs, rfl, _⟩ := h; rfl
  obtain ⟨x, dx, nw, us, zs, rfl, hl, hx, hd, hz, k⟩ := h
  match us, hl, zs, hz with
  | [u0], _, [z0], .cons h0 (.nil) =>
    have e0 : ("BadSize " : Str) = ("BadSize" : Str) ++ (" " : Str) := by decide +kernel
    have ln : ("BadSize " : Str).length = 8 := by decide +kernel
    have l1 : (" " : Str).length = 1 := by decide +kernel
    have qz : sizeLine = 16777216 := by decide
    have g0 := fmt_len h0
    refine ⟨_, pss_one (ps_ret (pe_fstr (pj_cons pe_str (pj_cons (pe_fv (pe_xfld (pv 0) rfl)) pj_nil)))), ?_⟩
    refine ⟨_, rfl, by rw [Str.empty_append]; decide +kernel, _, rfl, x, nw, C, dx, _, _, rfl, hx, hd, c.is.toXGet, c.no _ (by simp), rfl, fmt_r h0 ⟨_, rfl, by simp only [Str.empty_append, strLen_append]; omega, ?_⟩⟩
    refine ⟨by simp only [Str.empty_append, strLen_append]; omega, ?_⟩
    rw [Str.empty_append, e0]
    exact k
theorem scIBadPath : FnScope ["self", "path"] ["self", "path"] (defScope sIBadPath) := ⟨rfl, rfl, rfl, by decide +kernel, rfl, by decide +kernel, by decide +kernel⟩
theorem okIBadPath {f C : Addr} {fd : FuncData} (F : Fun K "__init__" "BadPath.__init__" sIBadPath f fd) (c : XOwn K C ["path"]) : FnOk P w K mg base CX0 1 f fd ["self", "path"] (spErr C ["path"]) := by
  refine F.ok scIBadPath (fun vs H Q E h => spErr_len h) (fun cdv A outer s H vs Q E hr h => ?_)
  obtain ⟨x, us, rfl, hl, hx, k⟩ := h
  match us, hl, k with
  | [u0], _, k =>
    refine ⟨_, pss_one (ps_xfld (pv 0) (pv 1) rfl), ?_⟩
    refine ⟨_, rfl, _, rfl, x, true, C, rfl, c.cl, c.no _ (by simp), .inl ⟨hx, fun dx hd => ?_⟩⟩
    have xd : x ≠ dx := ne_of_none hx hd
    exact k dx _ hd upd_same (by rw [upd_ne xd.symm, upd_same]; rfl) fun b o e hb => by rw [upd_ne hb, upd_ne (ne_of_none e hd)]; exact e
theorem scSBadPath : FnScope ["self"] ["self"] (defScope sSBadPath) := ⟨rfl, rfl, rfl, by decide +kernel, rfl, by decide +kernel, by decide +kernel⟩
theorem okSBadPath {f C : Addr} {fd : FuncData} (F : Fun K "__str__" "BadPath.__str__" sSBadPath f fd) (c : XOwn K C ["path"]) : FnH P w K mg base 1 f fd ["self"] (spXS C "BadPath" ["path"]) := by
  refine F.okH scSBadPath (fun vs H Q E h => ?_) (fun cdv A outer s H vs Q E hr h => ?_)
  · obtain ⟨x, dx, nw, us, zs, rfl, _⟩ := h; rfl
  obtain ⟨x, dx, nw, us, zs, rfl, hl, hx, hd, hz, k⟩ := h
  match us, hl, zs, hz with
  | [u0], _, [z0], .cons h0 (.nil) =>
    have e0 : ("BadPath " : Str) = ("BadPath" : Str) ++ (" " : Str) := by decide +kernel
    have ln : ("BadPath " : Str).length = 8 := by decide +kernel
    have l1 : (" " : Str).length = 1 := by decide +kernel
    have qz : sizeLine = 16777216 := by decide
    have g0 := fmt_len h0
    refine ⟨_, pss_one (ps_ret (pe_fstr (pj_cons pe_str (pj_cons (pe_fv (pe_xfld (pv 0) rfl)) pj_nil)))), ?_⟩
    refine ⟨_, rfl, by rw [Str.empty_append]; decide +kernel, _, rfl, x, nw, C, dx, _, _, rfl, hx, hd, c.is.toXGet, c.no _ (by simp), rfl, fmt_r h0 ⟨_, rfl, by simp only [Str.empty_append, strLen_append]; omega, ?_⟩⟩
    refine ⟨by simp only [Str.empty_append, strLen_append]; omega, ?_⟩
    rw [Str.empty_append, e0]
    exact k
theorem scIBadPage : FnScope ["self", "page"] ["self", "page"] (defScope sIBadPage) := ⟨rfl, rfl, rfl, by decide +kernel, rfl, by decide +kernel, by decide +kernel⟩
theorem okIBadPage {f C : Addr} {fd : FuncData} (F : Fun K "__init__" "BadPage.__init__" sIBadPage f fd) (c : XOwn K C ["page"]) : FnOk P w K mg base CX0 1 f fd ["self", "page"] (spErr C ["page"]) := by
  refine F.ok scIBadPage (fun vs H Q E h => spErr_len h) (fun cdv A outer s H vs Q E hr h => ?_)
  obtain ⟨x, us, rfl, hl, hx, k⟩ := h
  match us, hl, k with
  | [u0], _, k =>
    refine ⟨_, pss_one (ps_xfld (pv 0) (pv 1) rfl), ?_⟩
    refine ⟨_, rfl, _, rfl, x, true, C, rfl, c.cl, c.no _ (by simp), .inl ⟨hx, fun dx hd => ?_⟩⟩
    have xd : x ≠ dx := ne_of_none hx hd
    exact k dx _ hd upd_same (by rw [upd_ne xd.symm, upd_same]; rfl) fun b o e hb => by rw [upd_ne hb, upd_ne (ne_of_none e hd)]; exact e
theorem scSBadPage : FnScope ["self"] ["self"] (defScope sSBadPage) := ⟨rfl, rfl, rfl, by decide +kernel, rfl, by decide +kernel, by decide +kernel⟩
theorem okSBadPage {f C : Addr} {fd : FuncData} (F : Fun K "__str__" "BadPage.__str__" sSBadPage f fd) (c : XOwn K C ["page"]) : FnH P w K mg base 1 f fd ["self"] (spXS C "BadPage" ["page"]) := by
  refine F.okH scSBadPage (fun vs H Q E h => ?_) (fun cdv A outer s H vs Q E hr h => ?_)
  · obtain ⟨x, dx, nw, us, zs, rfl, _⟩ := h; rfl
  obtain ⟨x, dx, nw, us, zs, rfl, hl, hx, hd, hz, k⟩ := h
  match us, hl, zs, hz with
  | [u0], _, [z0], .cons h0 (.nil) =>
    have e0 : ("BadPage " : Str) = ("BadPage" : Str) ++ (" " : Str) := by decide +kernel
    have ln : ("BadPage " : Str).length = 8 := by decide +kernel
    have l1 : (" " : Str).length = 1 := by decide +kernel
    have qz : sizeLine = 16777216 := by decide
    have g0 := fmt_len h0
    refine ⟨_, pss_one (ps_ret (pe_fstr (pj_cons pe_str (pj_cons (pe_fv (pe_xfld (pv 0) rfl)) pj_nil)))), ?_⟩
    refine ⟨_, rfl, by rw [Str.empty_append]; decide +kernel, _, rfl, x, nw, C, dx, _, _, rfl, hx, hd, c.is.toXGet, c.no _ (by simp), rfl, fmt_r h0 ⟨_, rfl, by simp only [Str.empty_append, strLen_append]; omega, ?_⟩⟩
    refine ⟨by simp only [Str.empty_append, strLen_append]; omega, ?_⟩
    rw [Str.empty_append, e0]
    exact k
theorem scIBadMany : FnScope ["self", "many"] ["self", "many"] (defScope sIBadMany) := ⟨rfl, rfl, rfl, by decide +kernel, rfl, by decide +kernel, by decide +kernel⟩
theorem okIBadMany {f C : Addr} {fd : FuncData} (F : Fun K "__init__" "BadMany.__init__" sIBadMany f fd) (c : XOwn K C ["many"]) : FnOk P w K mg base CX0 1 f fd ["self", "many"] (spErr C ["many"]) := by
  refine F.ok scIBadMany (fun vs H Q E h => spErr_len h) (fun cdv A outer s H vs Q E hr h => ?_)
  obtain ⟨x, us, rfl, hl, hx, k⟩ := h
  match us, hl, k with
  | [u0], _, k =>
    refine ⟨_, pss_one (ps_xfld (pv 0) (pv 1) rfl), ?_⟩
    refine ⟨_, rfl, _, rfl, x, true, C, rfl, c.cl, c.no _ (by simp), .inl ⟨hx, fun dx hd => ?_⟩⟩
    have xd : x ≠ dx := ne_of_none hx hd
    exact k dx _ hd upd_same (by rw [upd_ne xd.symm, upd_same]; rfl) fun b o e hb => by rw [upd_ne hb, upd_ne (ne_of_none e hd)]; exact e
theorem scSBadMany : FnScope ["self"] ["self"] (defScope sSBadMany) := ⟨rfl, rfl, rfl, by decide +kernel, rfl, by decide +kernel, by decide +kernel⟩
theorem okSBadMany {f C : Addr} {fd : FuncData} (F : Fun K "__str__" "BadMany.__str__" sSBadMany f fd) (c : XOwn K C ["many"]) : FnH P w K mg base 1 f fd ["self"] (spXS C "BadMany" ["many"]) := by
  refine F.okH scSBadMany (fun vs H Q E h => ?_) (fun cdv A outer s H vs Q E hr h => ?_)
  · obtain ⟨x, dx, nw, us, zs, rfl, _⟩ := h; rfl
  obtain ⟨x, dx, nw, us, zs, rfl, hl, hx, hd, hz, k⟩ := h
  match us, hl, zs, hz with
  | [u0], _, [z0], .cons h0 (.nil) =>
    have e0 : ("BadMany " : Str) = ("BadMany" : Str) ++ (" " : Str) := by decide +kernel
    have ln : ("BadMany " : Str).length = 8 := by decide +kernel
    have l1 : (" " : Str).length = 1 := by decide +kernel
    have qz : sizeLine = 16777216 := by decide
    have g0 := fmt_len h0
    refine ⟨_, pss_one (ps_ret (pe_fstr (pj_cons pe_str (pj_cons (pe_fv (pe_xfld (pv 0) rfl)) pj_nil)))), ?_⟩
    refine ⟨_, rfl, by rw [Str.empty_append]; decide +kernel, _, rfl, x, nw, C, dx, _, _, rfl, hx, hd, c.is.toXGet, c.no _ (by simp), rfl, fmt_r h0 ⟨_, rfl, by simp only [Str.empty_append, strLen_append]; omega, ?_⟩⟩
    refine ⟨by simp only [Str.empty_append, strLen_append]; omega, ?_⟩
    rw [Str.empty_append, e0]
    exact k
theorem scIBadOwner : FnScope ["self", "whose"] ["self", "whose"] (defScope sIBadOwner) := ⟨rfl, rfl, rfl, by decide +kernel, rfl, by decide +kernel, by decide +kernel⟩
theorem okIBadOwner {f C : Addr} {fd : FuncData} (F : Fun K "__init__" "BadOwner.__init__" sIBadOwner f fd) (c : XOwn K C ["whose"]) : FnOk P w K mg base CX0 1 f fd ["self", "whose"] (spErr C ["whose"]) := by
  refine F.ok scIBadOwner (fun vs H Q E h => spErr_len h) (fun cdv A outer s H vs Q E hr h => ?_)
  obtain ⟨x, us, rfl, hl, hx, k⟩ := h
  match us, hl, k with
  | [u0], _, k =>
    refine ⟨_, pss_one (ps_xfld (pv 0) (pv 1) rfl), ?_⟩
    refine ⟨_, rfl, _, rfl, x, true, C, rfl, c.cl, c.no _ (by simp), .inl ⟨hx, fun dx hd => ?_⟩⟩
    have xd : x ≠ dx := ne_of_none hx hd
    exact k dx _ hd upd_same (by rw [upd_ne xd.symm, upd_same]; rfl) fun b o e hb => by rw [upd_ne hb, upd_ne (ne_of_none e hd)]; exact e
theorem scSBadOwner : FnScope ["self"] ["self"] (defScope sSBadOwner) := ⟨rfl, rfl, rfl, by decide +kernel, rfl, by decide +kernel, by decide +kernel⟩
theorem okSBadOwner {f C : Addr} {fd : FuncData} (F : Fun K "__str__" "BadOwner.__str__" sSBadOwner f fd) (c : XOwn K C ["whose"]) : FnH P w K mg base 1 f fd ["self"] (spXS C "BadOwner" ["whose"]) := by
  refine F.okH scSBadOwner (fun vs H Q E h => ?_) (fun cdv A outer s H vs Q E hr h => ?_)
  · obtain ⟨x, dx, nw, us, zs, rfl, _⟩ := h; rfl
  obtain ⟨x, dx, nw, us, zs, rfl, hl, hx, hd, hz, k⟩ := h
  match us, hl, zs, hz with
  | [u0], _, [z0], .cons h0 (.nil) =>
    have e0 : ("BadOwner " : Str) = ("BadOwner" : Str) ++ (" " : Str) := by decide +kernel
    have ln : ("BadOwner " : Str).length = 9 := by decide +kernel
    have l1 : (" " : Str).length = 1 := by decide +kernel
    have qz : sizeLine = 16777216 := by decide
    have g0 := fmt_len h0
    refine ⟨_, pss_one (ps_ret (pe_fstr (pj_cons pe_str (pj_cons (pe_fv (pe_xfld (pv 0) rfl)) pj_nil)))), ?_⟩
    refine ⟨_, rfl, by rw [Str.empty_append]; decide +kernel, _, rfl, x, nw, C, dx, _, _, rfl, hx, hd, c.is.toXGet, c.no _ (by simp), rfl, fmt_r h0 ⟨_, rfl, by simp only [Str.empty_append, strLen_append]; omega, ?_⟩⟩
    refine ⟨by simp only [Str.empty_append, strLen_append]; omega, ?_⟩
    rw [Str.empty_append, e0]
    exact k
theorem scITaken : FnScope ["self", "path"] ["self", "path"] (defScope sITaken) := ⟨rfl, rfl, rfl, by decide +kernel, rfl, by decide +kernel, by decide +kernel⟩
theorem okITaken {f C : Addr} {fd : FuncData} (F : Fun K "__init__" "Taken.__init__" sITaken f fd) (c : XOwn K C ["path"]) : FnOk P w K mg base CX0 1 f fd ["self", "path"] (spErr C ["path"]) := by
  refine F.ok scITaken (fun vs H Q E h => spErr_len h) (fun cdv A outer s H vs Q E hr h => ?_)
  obtain ⟨x, us, rfl, hl, hx, k⟩ := h
  match us, hl, k with
  | [u0], _, k =>
    refine ⟨_, pss_one (ps_xfld (pv 0) (pv 1) rfl), ?_⟩
    refine ⟨_, rfl, _, rfl, x, true, C, rfl, c.cl, c.no _ (by simp), .inl ⟨hx, fun dx hd => ?_⟩⟩
    have xd : x ≠ dx := ne_of_none hx hd
    exact k dx _ hd upd_same (by rw [upd_ne xd.symm, upd_same]; rfl) fun b o e hb => by rw [upd_ne hb, upd_ne (ne_of_none e hd)]; exact e
theorem scSTaken : FnScope ["self"] ["self"] (defScope sSTaken) := ⟨rfl, rfl, rfl, by decide +kernel, rfl, by decide +kernel, by decide +kernel⟩
theorem okSTaken {f C : Addr} {fd : FuncData} (F : Fun K "__str__" "Taken.__str__" sSTaken f fd) (c : XOwn K C ["path"]) : FnH P w K mg base 1 f fd ["self"] (spXS C "Taken" ["path"]) := by
  refine F.okH scSTaken (fun vs H Q E h => ?_) (fun cdv A outer s H vs Q E hr h => ?_)
  · obtain ⟨x, dx, nw, us, zs, rfl, _⟩ := h; rfl
  obtain ⟨x, dx, nw, us, zs, rfl, hl, hx, hd, hz, k⟩ := h
  match us, hl, zs, hz with
  | [u0], _, [z0], .cons h0 (.nil) =>
    have e0 : ("Taken " : Str) = ("Taken" : Str) ++ (" " : Str) := by decide +kernel
    have ln : ("Taken " : Str).length = 6 := by decide +kernel
    have l1 : (" " : Str).length = 1 := by decide +kernel
    have qz : sizeLine = 16777216 := by decide
    have g0 := fmt_len h0
    refine ⟨_, pss_one (ps_ret (pe_fstr (pj_cons pe_str (pj_cons (pe_fv (pe_xfld (pv 0) rfl)) pj_nil)))), ?_⟩
    refine ⟨_, rfl, by rw [Str.empty_append]; decide +kernel, _, rfl, x, nw, C, dx, _, _, rfl, hx, hd, c.is.toXGet, c.no _ (by simp), rfl, fmt_r h0 ⟨_, rfl, by simp only [Str.empty_append, strLen_append]; omega, ?_⟩⟩
    refine ⟨by simp only [Str.empty_append, strLen_append]; omega, ?_⟩
    rw [Str.empty_append, e0]
    exact k
theorem scICrowded : FnScope ["self", "most"] ["self", "most"] (defScope sICrowded) := ⟨rfl, rfl, rfl, by decide +kernel, rfl, by decide +kernel, by decide +kernel⟩
theorem okICrowded {f C : Addr} {fd : FuncData} (F : Fun K "__init__" "Crowded.__init__" sICrowded f fd) (c : XOwn K C ["most"]) : FnOk P w K mg base CX0 1 f fd ["self", "most"] (spErr C ["most"]) := by
  refine F.ok scICrowded (fun vs H Q E h => spErr_len h) (fun cdv A outer s H vs Q E hr h => ?_)
  obtain ⟨x, us, rfl, hl, hx, k⟩ := h
  match us, hl, k with
  | [u0], _, k =>
    refine ⟨_, pss_one (ps_xfld (pv 0) (pv 1) rfl), ?_⟩
    refine ⟨_, rfl, _, rfl, x, true, C, rfl, c.cl, c.no _ (by simp), .inl ⟨hx, fun dx hd => ?_⟩⟩
    have xd : x ≠ dx := ne_of_none hx hd
    exact k dx _ hd upd_same (by rw [upd_ne xd.symm, upd_same]; rfl) fun b o e hb => by rw [upd_ne hb, upd_ne (ne_of_none e hd)]; exact e
theorem scSCrowded : FnScope ["self"] ["self"] (defScope sSCrowded) := ⟨rfl, rfl, rfl, by decide +kernel, rfl, by decide +kernel, by decide +kernel⟩
theorem okSCrowded {f C : Addr} {fd : FuncData} (F : Fun K "__str__" "Crowded.__str__" sSCrowded f fd) (c : XOwn K C ["most"]) : FnH P w K mg base 1 f fd ["self"] (spXS C "Crowded" ["most"]) := by
  refine F.okH scSCrowded (fun vs H Q E h => ?_) (fun cdv A outer s H vs Q E hr h => ?_)
  · obtain ⟨x, dx, nw, us, zs, rfl, _⟩ := h; rfl
  obtain ⟨x, dx, nw, us, zs, rfl, hl, hx, hd, hz, k⟩ := h
  match us, hl, zs, hz with
  | [u0], _, [z0], .cons h0 (.nil) =>
    have e0 : ("Crowded " : Str) = ("Crowded" : Str) ++ (" " : Str) := by decide +kernel
    have ln : ("Crowded " : Str).length = 8 := by decide +kernel
    have l1 : (" " : Str).length = 1 := by decide +kernel
    have qz : sizeLine = 16777216 := by decide
    have g0 := fmt_len h0
    refine ⟨_, pss_one (ps_ret (pe_fstr (pj_cons pe_str (pj_cons (pe_fv (pe_xfld (pv 0) rfl)) pj_nil)))), ?_⟩
    refine ⟨_, rfl, by rw [Str.empty_append]; decide +kernel, _, rfl, x, nw, C, dx, _, _, rfl, hx, hd, c.is.toXGet, c.no _ (by simp), rfl, fmt_r h0 ⟨_, rfl, by simp only [Str.empty_append, strLen_append]; omega, ?_⟩⟩
    refine ⟨by simp only [Str.empty_append, strLen_append]; omega, ?_⟩
    rw [Str.empty_append, e0]
    exact k
theorem scINotEmpty : FnScope ["self", "path"] ["self", "path"] (defScope sINotEmpty) := ⟨rfl, rfl, rfl, by decide +kernel, rfl, by decide +kernel, by decide +kernel⟩
theorem okINotEmpty {f C : Addr} {fd : FuncData} (F : Fun K "__init__" "NotEmpty.__init__" sINotEmpty f fd) (c : XOwn K C ["path"]) : FnOk P w K mg base CX0 1 f fd ["self", "path"] (spErr C ["path"]) := by
  refine F.ok scINotEmpty (fun vs H Q E h => spErr_len h) (fun cdv A outer s H vs Q E hr h => ?_)
  obtain ⟨x, us, rfl, hl, hx, k⟩ := h
  match us, hl, k with
  | [u0], _, k =>
    refine ⟨_, pss_one (ps_xfld (pv 0) (pv 1) rfl), ?_⟩
    refine ⟨_, rfl, _, rfl, x, true, C, rfl, c.cl, c.no _ (by simp), .inl ⟨hx, fun dx hd => ?_⟩⟩
    have xd : x ≠ dx := ne_of_none hx hd
    exact k dx _ hd upd_same (by rw [upd_ne xd.symm, upd_same]; rfl) fun b o e hb => by rw [upd_ne hb, upd_ne (ne_of_none e hd)]; exact e
theorem scSNotEmpty : FnScope ["self"] ["self"] (defScope sSNotEmpty) := ⟨rfl, rfl, rfl, by decide +kernel, rfl, by decide +kernel, by decide +kernel⟩
theorem okSNotEmpty {f C : Addr} {fd : FuncData} (F : Fun K "__str__" "NotEmpty.__str__" sSNotEmpty f fd) (c : XOwn K C ["path"]) : FnH P w K mg base 1 f fd ["self"] (spXS C "NotEmpty" ["path"]) := by
  refine F.okH scSNotEmpty (fun vs H Q E h => ?_) (fun cdv A outer s H vs Q E hr h => ?_)
  · obtain ⟨x, dx, nw, us, zs, rfl, _⟩ := h; rfl
  obtain ⟨x, dx, nw, us, zs, rfl, hl, hx, hd, hz, k⟩ := h
  match us, hl, zs, hz with
  | [u0], _, [z0], .cons h0 (.nil) =>
    have e0 : ("NotEmpty " : Str) = ("NotEmpty" : Str) ++ (" " : Str) := by decide +kernel
    have ln : ("NotEmpty " : Str).length = 9 := by decide +kernel
    have l1 : (" " : Str).length = 1 := by decide +kernel
    have qz : sizeLine = 16777216 := by decide
    have g0 := fmt_len h0
    refine ⟨_, pss_one (ps_ret (pe_fstr (pj_cons pe_str (pj_cons (pe_fv (pe_xfld (pv 0) rfl)) pj_nil)))), ?_⟩
    refine ⟨_, rfl, by rw [Str.empty_append]; decide +kernel, _, rfl, x, nw, C, dx, _, _, rfl, hx, hd, c.is.toXGet, c.no _ (by simp), rfl, fmt_r h0 ⟨_, rfl, by simp only [Str.empty_append, strLen_append]; omega, ?_⟩⟩
    refine ⟨by simp only [Str.empty_append, strLen_append]; omega, ?_⟩
    rw [Str.empty_append, e0]
    exact k
end
end K21


namespace K21
open PySem L2 SS
section
variable {P : Program} {w : World} {K : PySem.W.Frag} {mg : Str → Option Value} {base : Heap}
theorem scIUnsettled : FnScope ["self", "path"] ["self", "path"] (defScope sIUnsettled) := ⟨rfl, rfl, rfl, by decide +kernel, rfl, by decide +kernel, by decide +kernel⟩
theorem okIUnsettled {f C : Addr} {fd : FuncData} (F : Fun K "__init__" "Unsettled.__init__" sIUnsettled f fd) (c : XOwn K C ["path"]) : FnOk P w K mg base CX0 1 f fd ["self", "path"] (spErr C ["path"]) := by
  refine F.ok scIUnsettled (fun vs H Q E h => spErr_len h) (fun cdv A outer s H vs Q E hr h => ?_)
  obtain ⟨x, us, rfl, hl, hx, k⟩ := h
  match us, hl, k with
  | [u0], _, k =>
    refine ⟨_, pss_one (ps_xfld (pv 0) (pv 1) rfl), ?_⟩
    refine ⟨_, rfl, _, rfl, x, true, C, rfl, c.cl, c.no _ (by simp), .inl ⟨hx, fun dx hd => ?_⟩⟩
    have xd : x ≠ dx := ne_of_none hx hd
    exact k dx _ hd upd_same (by rw [upd_ne xd.symm, upd_same]; rfl) fun b o e hb => by rw [upd_ne hb, upd_ne (ne_of_none e hd)]; exact e
theorem scSUnsettled : FnScope ["self"] ["self"] (defScope sSUnsettled) := ⟨rfl, rfl, rfl, by decide +kernel, rfl, by decide +kernel, by decide +kernel⟩
theorem okSUnsettled {f C : Addr} {fd : FuncData} (F : Fun K "__str__" "Unsettled.__str__" sSUnsettled f fd) (c : XOwn K C ["path"]) : FnH P w K mg base 1 f fd ["self"] (spXS C "Unsettled" ["path"]) := by
  refine F.okH scSUnsettled (fun vs H Q E h => ?_) (fun cdv A outer s H vs Q E hr h => ?_)
  · obtain ⟨x, dx, nw, us, zs, rfl, _⟩ := h; rfl
  obtain ⟨x, dx, nw, us, zs, rfl, hl, hx, hd, hz, k⟩ := h
  match us, hl, zs, hz with
  | [u0], _, [z0], .cons h0 (.nil) =>
    have e0 : ("Unsettled " : Str) = ("Unsettled" : Str) ++ (" " : Str) := by decide +kernel
    have ln : ("Unsettled " : Str).length = 10 := by decide +kernel
    have l1 : (" " : Str).length = 1 := by decide +kernel
    have qz : sizeLine = 16777216 := by decide
    have g0 := fmt_len h0
    refine ⟨_, pss_one (ps_ret (pe_fstr (pj_cons pe_str (pj_cons (pe_fv (pe_xfld (pv 0) rfl)) pj_nil)))), ?_⟩
    refine ⟨_, rfl, by rw [Str.empty_append]; decide +kernel, _, rfl, x, nw, C, dx, _, _, rfl, hx, hd, c.is.toXGet, c.no _ (by simp), rfl, fmt_r h0 ⟨_, rfl, by simp only [Str.empty_append, strLen_append]; omega, ?_⟩⟩
    refine ⟨by simp only [Str.empty_append, strLen_append]; omega, ?_⟩
    rw [Str.empty_append, e0]
    exact k
theorem scINoRoom : FnScope ["self", "asked", "there", "helps"] ["self", "asked", "there", "helps"] (defScope sINoRoom) := ⟨rfl, rfl, rfl, by decide +kernel, rfl, by decide +kernel, by decide +kernel⟩
theorem okINoRoom {f C : Addr} {fd : FuncData} (F : Fun K "__init__" "NoRoom.__init__" sINoRoom f fd) (c : XOwn K C ["asked", "there", "helps"]) : FnOk P w K mg base CX0 1 f fd ["self", "asked", "there", "helps"] (spErr C ["asked", "there", "helps"]) := by
  refine F.ok scINoRoom (fun vs H Q E h => spErr_len h) (fun cdv A outer s H vs Q E hr h => ?_)
  obtain ⟨x, us, rfl, hl, hx, k⟩ := h
  match us, hl, k with
  | [u0, u1, u2], _, k =>
    refine ⟨_, pss_cons (ps_xfld (pv 0) (pv 1) rfl) (pss_cons (ps_xfld (pv 0) (pv 2) rfl) (pss_one (ps_xfld (pv 0) (pv 3) rfl))), ?_⟩
    refine ⟨_, rfl, _, rfl, x, true, C, rfl, c.cl, c.no _ (by simp), .inl ⟨hx, fun dx hd => ?_⟩⟩
    have xd : x ≠ dx := ne_of_none hx hd
    refine ⟨_, rfl, _, rfl, x, true, C, rfl, c.cl, c.no _ (by simp), .inr ⟨dx, _, upd_same, by rw [upd_ne xd.symm, upd_same], (by show 1 < 1000; decide), ?_⟩⟩
    refine ⟨_, rfl, _, rfl, x, true, C, rfl, c.cl, c.no _ (by simp), .inr ⟨dx, _, by rw [upd_ne xd, upd_same], by rw [upd_same], (by show 2 < 1000; decide), ?_⟩⟩
    exact k dx _ hd (by rw [upd_ne xd, upd_ne xd, upd_same]) (by rw [upd_same]; rfl) fun b o e hb => by rw [upd_ne (ne_of_none e hd), upd_ne (ne_of_none e hd), upd_ne hb, upd_ne (ne_of_none e hd)]; exact e
theorem scSNoRoom : FnScope ["self"] ["self"] (defScope sSNoRoom) := ⟨rfl, rfl, rfl, by decide +kernel, rfl, by decide +kernel, by decide +kernel⟩
theorem okSNoRoom {f C : Addr} {fd : FuncData} (F : Fun K "__str__" "NoRoom.__str__" sSNoRoom f fd) (c : XOwn K C ["asked", "there", "helps"]) : FnH P w K mg base 1 f fd ["self"] (spXS C "NoRoom" ["asked", "there", "helps"]) := by
  refine F.okH scSNoRoom (fun vs H Q E h => ?_) (fun cdv A outer s H vs Q E hr h => ?_)
  · obtain ⟨x, dx, nw, us, zs, rfl, _⟩ := h; rfl
  obtain ⟨x, dx, nw, us, zs, rfl, hl, hx, hd, hz, k⟩ := h
  match us, hl, zs, hz with
  | [u0, u1, u2], _, [z0, z1, z2], .cons h0 (.cons h1 (.cons h2 (.nil))) =>
    have e0 : ("NoRoom " : Str) = ("NoRoom" : Str) ++ (" " : Str) := by decide +kernel
    have ln : ("NoRoom " : Str).length = 7 := by decide +kernel
    have l1 : (" " : Str).length = 1 := by decide +kernel
    have qz : sizeLine = 16777216 := by decide
    have g0 := fmt_len h0
    have g1 := fmt_len h1
    have g2 := fmt_len h2
    refine ⟨_, pss_one (ps_ret (pe_fstr (pj_cons pe_str (pj_cons (pe_fv (pe_xfld (pv 0) rfl)) (pj_cons pe_str (pj_cons (pe_fv (pe_xfld (pv 0) rfl)) (pj_cons pe_str (pj_cons (pe_fv (pe_xfld (pv 0) rfl)) pj_nil)))))))), ?_⟩
    refine ⟨_, rfl, by rw [Str.empty_append]; decide +kernel, _, rfl, x, nw, C, dx, _, _, rfl, hx, hd, c.is.toXGet, c.no _ (by simp), rfl, fmt_r h0 ⟨_, rfl, by simp only [Str.empty_append, strLen_append]; omega, ?_⟩⟩
    refine ⟨_, rfl, by simp only [Str.empty_append, strLen_append]; omega, _, rfl, x, nw, C, dx, _, _, rfl, hx, hd, c.is.toXGet, c.no _ (by simp), rfl, fmt_r h1 ⟨_, rfl, by simp only [Str.empty_append, strLen_append]; omega, ?_⟩⟩
    refine ⟨_, rfl, by simp only [Str.empty_append, strLen_append]; omega, _, rfl, x, nw, C, dx, _, _, rfl, hx, hd, c.is.toXGet, c.no _ (by simp), rfl, fmt_r h2 ⟨_, rfl, by simp only [Str.empty_append, strLen_append]; omega, ?_⟩⟩
    refine ⟨by simp only [Str.empty_append, strLen_append]; omega, ?_⟩
    rw [Str.empty_append, e0]
    exact k
theorem scIOverLimit : FnScope ["self", "whose", "asked", "most"] ["self", "whose", "asked", "most"] (defScope sIOverLimit) := ⟨rfl, rfl, rfl, by decide +kernel, rfl, by decide +kernel, by decide +kernel⟩
theorem okIOverLimit {f C : Addr} {fd : FuncData} (F : Fun K "__init__" "OverLimit.__init__" sIOverLimit f fd) (c : XOwn K C ["whose", "asked", "most"]) : FnOk P w K mg base CX0 1 f fd ["self", "whose", "asked", "most"] (spErr C ["whose", "asked", "most"]) := by
  refine F.ok scIOverLimit (fun vs H Q E h => spErr_len h) (fun cdv A outer s H vs Q E hr h => ?_)
  obtain ⟨x, us, rfl, hl, hx, k⟩ := h
  match us, hl, k with
  | [u0, u1, u2], _, k =>
    refine ⟨_, pss_cons (ps_xfld (pv 0) (pv 1) rfl) (pss_cons (ps_xfld (pv 0) (pv 2) rfl) (pss_one (ps_xfld (pv 0) (pv 3) rfl))), ?_⟩
    refine ⟨_, rfl, _, rfl, x, true, C, rfl, c.cl, c.no _ (by simp), .inl ⟨hx, fun dx hd => ?_⟩⟩
    have xd : x ≠ dx := ne_of_none hx hd
    refine ⟨_, rfl, _, rfl, x, true, C, rfl, c.cl, c.no _ (by simp), .inr ⟨dx, _, upd_same, by rw [upd_ne xd.symm, upd_same], (by show 1 < 1000; decide), ?_⟩⟩
    refine ⟨_, rfl, _, rfl, x, true, C, rfl, c.cl, c.no _ (by simp), .inr ⟨dx, _, by rw [upd_ne xd, upd_same], by rw [upd_same], (by show 2 < 1000; decide), ?_⟩⟩
    exact k dx _ hd (by rw [upd_ne xd, upd_ne xd, upd_same]) (by rw [upd_same]; rfl) fun b o e hb => by rw [upd_ne (ne_of_none e hd), upd_ne (ne_of_none e hd), upd_ne hb, upd_ne (ne_of_none e hd)]; exact e
theorem scSOverLimit : FnScope ["self"] ["self"] (defScope sSOverLimit) := ⟨rfl, rfl, rfl, by decide +kernel, rfl, by decide +kernel, by decide +kernel⟩
theorem okSOverLimit {f C : Addr} {fd : FuncData} (F : Fun K "__str__" "OverLimit.__str__" sSOverLimit f fd) (c : XOwn K C ["whose", "asked", "most"]) : FnH P w K mg base 1 f fd ["self"] (spXS C "OverLimit" ["whose", "asked", "most"]) := by
  refine F.okH scSOverLimit (fun vs H Q E h => ?_) (fun cdv A outer s H vs Q E hr h => ?_)
  · obtain ⟨x, dx, nw, us, zs, rfl, _⟩ := h; rfl
  obtain ⟨x, dx, nw, us, zs, rfl, hl, hx, hd, hz, k⟩ := h
  match us, hl, zs, hz with
  | [u0, u1, u2], _, [z0, z1, z2], .cons h0 (.cons h1 (.cons h2 (.nil))) =>
    have e0 : ("OverLimit " : Str) = ("OverLimit" : Str) ++ (" " : Str) := by decide +kernel
    have ln : ("OverLimit " : Str).length = 10 := by decide +kernel
    have l1 : (" " : Str).length = 1 := by decide +kernel
    have qz : sizeLine = 16777216 := by decide
    have g0 := fmt_len h0
    have g1 := fmt_len h1
    have g2 := fmt_len h2
    refine ⟨_, pss_one (ps_ret (pe_fstr (pj_cons pe_str (pj_cons (pe_fv (pe_xfld (pv 0) rfl)) (pj_cons pe_str (pj_cons (pe_fv (pe_xfld (pv 0) rfl)) (pj_cons pe_str (pj_cons (pe_fv (pe_xfld (pv 0) rfl)) pj_nil)))))))), ?_⟩
    refine ⟨_, rfl, by rw [Str.empty_append]; decide +kernel, _, rfl, x, nw, C, dx, _, _, rfl, hx, hd, c.is.toXGet, c.no _ (by simp), rfl, fmt_r h0 ⟨_, rfl, by simp only [Str.empty_append, strLen_append]; omega, ?_⟩⟩
    refine ⟨_, rfl, by simp only [Str.empty_append, strLen_append]; omega, _, rfl, x, nw, C, dx, _, _, rfl, hx, hd, c.is.toXGet, c.no _ (by simp), rfl, fmt_r h1 ⟨_, rfl, by simp only [Str.empty_append, strLen_append]; omega, ?_⟩⟩
    refine ⟨_, rfl, by simp only [Str.empty_append, strLen_append]; omega, _, rfl, x, nw, C, dx, _, _, rfl, hx, hd, c.is.toXGet, c.no _ (by simp), rfl, fmt_r h2 ⟨_, rfl, by simp only [Str.empty_append, strLen_append]; omega, ?_⟩⟩
    refine ⟨by simp only [Str.empty_append, strLen_append]; omega, ?_⟩
    rw [Str.empty_append, e0]
    exact k
theorem scIGraceOver : FnScope ["self", "whose", "began"] ["self", "whose", "began"] (defScope sIGraceOver) := ⟨rfl, rfl, rfl, by decide +kernel, rfl, by decide +kernel, by decide +kernel⟩
theorem okIGraceOver {f C : Addr} {fd : FuncData} (F : Fun K "__init__" "GraceOver.__init__" sIGraceOver f fd) (c : XOwn K C ["whose", "began"]) : FnOk P w K mg base CX0 1 f fd ["self", "whose", "began"] (spErr C ["whose", "began"]) := by
  refine F.ok scIGraceOver (fun vs H Q E h => spErr_len h) (fun cdv A outer s H vs Q E hr h => ?_)
  obtain ⟨x, us, rfl, hl, hx, k⟩ := h
  match us, hl, k with
  | [u0, u1], _, k =>
    refine ⟨_, pss_cons (ps_xfld (pv 0) (pv 1) rfl) (pss_one (ps_xfld (pv 0) (pv 2) rfl)), ?_⟩
    refine ⟨_, rfl, _, rfl, x, true, C, rfl, c.cl, c.no _ (by simp), .inl ⟨hx, fun dx hd => ?_⟩⟩
    have xd : x ≠ dx := ne_of_none hx hd
    refine ⟨_, rfl, _, rfl, x, true, C, rfl, c.cl, c.no _ (by simp), .inr ⟨dx, _, upd_same, by rw [upd_ne xd.symm, upd_same], (by show 1 < 1000; decide), ?_⟩⟩
    exact k dx _ hd (by rw [upd_ne xd, upd_same]) (by rw [upd_same]; rfl) fun b o e hb => by rw [upd_ne (ne_of_none e hd), upd_ne hb, upd_ne (ne_of_none e hd)]; exact e
theorem scSGraceOver : FnScope ["self"] ["self"] (defScope sSGraceOver) := ⟨rfl, rfl, rfl, by decide +kernel, rfl, by decide +kernel, by decide +kernel⟩
theorem okSGraceOver {f C : Addr} {fd : FuncData} (F : Fun K "__str__" "GraceOver.__str__" sSGraceOver f fd) (c : XOwn K C ["whose", "began"]) : FnH P w K mg base 1 f fd ["self"] (spXS C "GraceOver" ["whose", "began"]) := by
  refine F.okH scSGraceOver (fun vs H Q E h => ?_) (fun cdv A outer s H vs Q E hr h => ?_)
  · obtain ⟨x, dx, nw, us, zs, rfl, _⟩ := h; rfl
  obtain ⟨x, dx, nw, us, zs, rfl, hl, hx, hd, hz, k⟩ := h
  match us, hl, zs, hz with
  | [u0, u1], _, [z0, z1], .cons h0 (.cons h1 (.nil)) =>
    have e0 : ("GraceOver " : Str) = ("GraceOver" : Str) ++ (" " : Str) := by decide +kernel
    have ln : ("GraceOver " : Str).length = 10 := by decide +kernel
    have l1 : (" " : Str).length = 1 := by decide +kernel
    have qz : sizeLine = 16777216 := by decide
    have g0 := fmt_len h0
    have g1 := fmt_len h1
    refine ⟨_, pss_one (ps_ret (pe_fstr (pj_cons pe_str (pj_cons (pe_fv (pe_xfld (pv 0) rfl)) (pj_cons pe_str (pj_cons (pe_fv (pe_xfld (pv 0) rfl)) pj_nil)))))), ?_⟩
    refine ⟨_, rfl, by rw [Str.empty_append]; decide +kernel, _, rfl, x, nw, C, dx, _, _, rfl, hx, hd, c.is.toXGet, c.no _ (by simp), rfl, fmt_r h0 ⟨_, rfl, by simp only [Str.empty_append, strLen_append]; omega, ?_⟩⟩
    refine ⟨_, rfl, by simp only [Str.empty_append, strLen_append]; omega, _, rfl, x, nw, C, dx, _, _, rfl, hx, hd, c.is.toXGet, c.no _ (by simp), rfl, fmt_r h1 ⟨_, rfl, by simp only [Str.empty_append, strLen_append]; omega, ?_⟩⟩
    refine ⟨by simp only [Str.empty_append, strLen_append]; omega, ?_⟩
    rw [Str.empty_append, e0]
    exact k
theorem scIDry : FnScope ["self", "ticket", "asked", "there"] ["self", "ticket", "asked", "there"] (defScope sIDry) := ⟨rfl, rfl, rfl, by decide +kernel, rfl, by decide +kernel, by decide +kernel⟩
theorem okIDry {f C : Addr} {fd : FuncData} (F : Fun K "__init__" "Dry.__init__" sIDry f fd) (c : XOwn K C ["ticket", "asked", "there"]) : FnOk P w K mg base CX0 1 f fd ["self", "ticket", "asked", "there"] (spErr C ["ticket", "asked", "there"]) := by
  refine F.ok scIDry (fun vs H Q E h => spErr_len h) (fun cdv A outer s H vs Q E hr h => ?_)
  obtain ⟨x, us, rfl, hl, hx, k⟩ := h
  match us, hl, k with
  | [u0, u1, u2], _, k =>
    refine ⟨_, pss_cons (ps_xfld (pv 0) (pv 1) rfl) (pss_cons (ps_xfld (pv 0) (pv 2) rfl) (pss_one (ps_xfld (pv 0) (pv 3) rfl))), ?_⟩
    refine ⟨_, rfl, _, rfl, x, true, C, rfl, c.cl, c.no _ (by simp), .inl ⟨hx, fun dx hd => ?_⟩⟩
    have xd : x ≠ dx := ne_of_none hx hd
    refine ⟨_, rfl, _, rfl, x, true, C, rfl, c.cl, c.no _ (by simp), .inr ⟨dx, _, upd_same, by rw [upd_ne xd.symm, upd_same], (by show 1 < 1000; decide), ?_⟩⟩
    refine ⟨_, rfl, _, rfl, x, true, C, rfl, c.cl, c.no _ (by simp), .inr ⟨dx, _, by rw [upd_ne xd, upd_same], by rw [upd_same], (by show 2 < 1000; decide), ?_⟩⟩
    exact k dx _ hd (by rw [upd_ne xd, upd_ne xd, upd_same]) (by rw [upd_same]; rfl) fun b o e hb => by rw [upd_ne (ne_of_none e hd), upd_ne (ne_of_none e hd), upd_ne hb, upd_ne (ne_of_none e hd)]; exact e
theorem scSDry : FnScope ["self"] ["self"] (defScope sSDry) := ⟨rfl, rfl, rfl, by decide +kernel, rfl, by decide +kernel, by decide +kernel⟩
theorem okSDry {f C : Addr} {fd : FuncData} (F : Fun K "__str__" "Dry.__str__" sSDry f fd) (c : XOwn K C ["ticket", "asked", "there"]) : FnH P w K mg base 1 f fd ["self"] (spXS C "Dry" ["ticket", "asked", "there"]) := by
  refine F.okH scSDry (fun vs H Q E h => ?_) (fun cdv A outer s H vs Q E hr h => ?_)
  · obtain ⟨x, dx, nw, us, zs, rfl, _⟩ := h; rfl
  obtain ⟨x, dx, nw, us, zs, rfl, hl, hx, hd, hz, k⟩ := h
  match us, hl, zs, hz with
  | [u0, u1, u2], _, [z0, z1, z2], .cons h0 (.cons h1 (.cons h2 (.nil))) =>
    have e0 : ("Dry " : Str) = ("Dry" : Str) ++ (" " : Str) := by decide +kernel
    have ln : ("Dry " : Str).length = 4 := by decide +kernel
    have l1 : (" " : Str).length = 1 := by decide +kernel
    have qz : sizeLine = 16777216 := by decide
    have g0 := fmt_len h0
    have g1 := fmt_len h1
    have g2 := fmt_len h2
    refine ⟨_, pss_one (ps_ret (pe_fstr (pj_cons pe_str (pj_cons (pe_fv (pe_xfld (pv 0) rfl)) (pj_cons pe_str (pj_cons (pe_fv (pe_xfld (pv 0) rfl)) (pj_cons pe_str (pj_cons (pe_fv (pe_xfld (pv 0) rfl)) pj_nil)))))))), ?_⟩
    refine ⟨_, rfl, by rw [Str.empty_append]; decide +kernel, _, rfl, x, nw, C, dx, _, _, rfl, hx, hd, c.is.toXGet, c.no _ (by simp), rfl, fmt_r h0 ⟨_, rfl, by simp only [Str.empty_append, strLen_append]; omega, ?_⟩⟩
    refine ⟨_, rfl, by simp only [Str.empty_append, strLen_append]; omega, _, rfl, x, nw, C, dx, _, _, rfl, hx, hd, c.is.toXGet, c.no _ (by simp), rfl, fmt_r h1 ⟨_, rfl, by simp only [Str.empty_append, strLen_append]; omega, ?_⟩⟩
    refine ⟨_, rfl, by simp only [Str.empty_append, strLen_append]; omega, _, rfl, x, nw, C, dx, _, _, rfl, hx, hd, c.is.toXGet, c.no _ (by simp), rfl, fmt_r h2 ⟨_, rfl, by simp only [Str.empty_append, strLen_append]; omega, ?_⟩⟩
    refine ⟨by simp only [Str.empty_append, strLen_append]; omega, ?_⟩
    rw [Str.empty_append, e0]
    exact k
theorem scIUndone : FnScope ["self", "at", "why"] ["self", "at", "why"] (defScope sIUndone) := ⟨rfl, rfl, rfl, by decide +kernel, rfl, by decide +kernel, by decide +kernel⟩
theorem okIUndone {f C : Addr} {fd : FuncData} (F : Fun K "__init__" "Undone.__init__" sIUndone f fd) (c : XOwn K C ["at", "why"]) : FnOk P w K mg base CX0 1 f fd ["self", "at", "why"] (spErr C ["at", "why"]) := by
  refine F.ok scIUndone (fun vs H Q E h => spErr_len h) (fun cdv A outer s H vs Q E hr h => ?_)
  obtain ⟨x, us, rfl, hl, hx, k⟩ := h
  match us, hl, k with
  | [u0, u1], _, k =>
    refine ⟨_, pss_cons (ps_xfld (pv 0) (pv 1) rfl) (pss_one (ps_xfld (pv 0) (pv 2) rfl)), ?_⟩
    refine ⟨_, rfl, _, rfl, x, true, C, rfl, c.cl, c.no _ (by simp), .inl ⟨hx, fun dx hd => ?_⟩⟩
    have xd : x ≠ dx := ne_of_none hx hd
    refine ⟨_, rfl, _, rfl, x, true, C, rfl, c.cl, c.no _ (by simp), .inr ⟨dx, _, upd_same, by rw [upd_ne xd.symm, upd_same], (by show 1 < 1000; decide), ?_⟩⟩
    exact k dx _ hd (by rw [upd_ne xd, upd_same]) (by rw [upd_same]; rfl) fun b o e hb => by rw [upd_ne (ne_of_none e hd), upd_ne hb, upd_ne (ne_of_none e hd)]; exact e
theorem scSUndone : FnScope ["self"] ["self"] (defScope sSUndone) := ⟨rfl, rfl, rfl, by decide +kernel, rfl, by decide +kernel, by decide +kernel⟩
theorem okSUndone {f C : Addr} {fd : FuncData} (F : Fun K "__str__" "Undone.__str__" sSUndone f fd) (c : XOwn K C ["at", "why"]) : FnH P w K mg base 1 f fd ["self"] (spXS C "Undone" ["at", "why"]) := by
  refine F.okH scSUndone (fun vs H Q E h => ?_) (fun cdv A outer s H vs Q E hr h => ?_)
  · obtain ⟨x, dx, nw, us, zs, rfl, _⟩ := h; rfl
  obtain ⟨x, dx, nw, us, zs, rfl, hl, hx, hd, hz, k⟩ := h
  match us, hl, zs, hz with
  | [u0, u1], _, [z0, z1], .cons h0 (.cons h1 (.nil)) =>
    have e0 : ("Undone " : Str) = ("Undone" : Str) ++ (" " : Str) := by decide +kernel
    have ln : ("Undone " : Str).length = 7 := by decide +kernel
    have l1 : (" " : Str).length = 1 := by decide +kernel
    have qz : sizeLine = 16777216 := by decide
    have g0 := fmt_len h0
    have g1 := fmt_len h1
    refine ⟨_, pss_one (ps_ret (pe_fstr (pj_cons pe_str (pj_cons (pe_fv (pe_xfld (pv 0) rfl)) (pj_cons pe_str (pj_cons (pe_fv (pe_xfld (pv 0) rfl)) pj_nil)))))), ?_⟩
    refine ⟨_, rfl, by rw [Str.empty_append]; decide +kernel, _, rfl, x, nw, C, dx, _, _, rfl, hx, hd, c.is.toXGet, c.no _ (by simp), rfl, fmt_r h0 ⟨_, rfl, by simp only [Str.empty_append, strLen_append]; omega, ?_⟩⟩
    refine ⟨_, rfl, by simp only [Str.empty_append, strLen_append]; omega, _, rfl, x, nw, C, dx, _, _, rfl, hx, hd, c.is.toXGet, c.no _ (by simp), rfl, fmt_r h1 ⟨_, rfl, by simp only [Str.empty_append, strLen_append]; omega, ?_⟩⟩
    refine ⟨by simp only [Str.empty_append, strLen_append]; omega, ?_⟩
    rw [Str.empty_append, e0]
    exact k
theorem scINoFile : FnScope ["self", "path"] ["self", "path"] (defScope sINoFile) := ⟨rfl, rfl, rfl, by decide +kernel, rfl, by decide +kernel, by decide +kernel⟩
theorem okINoFile {f C : Addr} {fd : FuncData} (F : Fun K "__init__" "NoFile.__init__" sINoFile f fd) (c : XOwn K C ["path"]) : FnOk P w K mg base CX0 1 f fd ["self", "path"] (spErr C ["path"]) := by
  refine F.ok scINoFile (fun vs H Q E h => spErr_len h) (fun cdv A outer s H vs Q E hr h => ?_)
  obtain ⟨x, us, rfl, hl, hx, k⟩ := h
  match us, hl, k with
  | [u0], _, k =>
    refine ⟨_, pss_one (ps_xfld (pv 0) (pv 1) rfl), ?_⟩
    refine ⟨_, rfl, _, rfl, x, true, C, rfl, c.cl, c.no _ (by simp), .inl ⟨hx, fun dx hd => ?_⟩⟩
    have xd : x ≠ dx := ne_of_none hx hd
    exact k dx _ hd upd_same (by rw [upd_ne xd.symm, upd_same]; rfl) fun b o e hb => by rw [upd_ne hb, upd_ne (ne_of_none e hd)]; exact e
theorem scSNoFile : FnScope ["self"] ["self"] (defScope sSNoFile) := ⟨rfl, rfl, rfl, by decide +kernel, rfl, by decide +kernel, by decide +kernel⟩
theorem okSNoFile {f C : Addr} {fd : FuncData} (F : Fun K "__str__" "NoFile.__str__" sSNoFile f fd) (c : XOwn K C ["path"]) : FnH P w K mg base 1 f fd ["self"] (spXS C "NoFile" ["path"]) := by
  refine F.okH scSNoFile (fun vs H Q E h => ?_) (fun cdv A outer s H vs Q E hr h => ?_)
  · obtain ⟨x, dx, nw, us, zs, rfl, _⟩ := h; rfl
  obtain ⟨x, dx, nw, us, zs, rfl, hl, hx, hd, hz, k⟩ := h
  match us, hl, zs, hz with
  | [u0], _, [z0], .cons h0 (.nil) =>
    have e0 : ("NoFile " : Str) = ("NoFile" : Str) ++ (" " : Str) := by decide +kernel
    have ln : ("NoFile " : Str).length = 7 := by decide +kernel
    have l1 : (" " : Str).length = 1 := by decide +kernel
    have qz : sizeLine = 16777216 := by decide
    have g0 := fmt_len h0
    refine ⟨_, pss_one (ps_ret (pe_fstr (pj_cons pe_str (pj_cons (pe_fv (pe_xfld (pv 0) rfl)) pj_nil)))), ?_⟩
    refine ⟨_, rfl, by rw [Str.empty_append]; decide +kernel, _, rfl, x, nw, C, dx, _, _, rfl, hx, hd, c.is.toXGet, c.no _ (by simp), rfl, fmt_r h0 ⟨_, rfl, by simp only [Str.empty_append, strLen_append]; omega, ?_⟩⟩
    refine ⟨by simp only [Str.empty_append, strLen_append]; omega, ?_⟩
    rw [Str.empty_append, e0]
    exact k
theorem scINoFolder : FnScope ["self", "path"] ["self", "path"] (defScope sINoFolder) := ⟨rfl, rfl, rfl, by decide +kernel, rfl, by decide +kernel, by decide +kernel⟩
theorem okINoFolder {f C : Addr} {fd : FuncData} (F : Fun K "__init__" "NoFolder.__init__" sINoFolder f fd) (c : XOwn K C ["path"]) : FnOk P w K mg base CX0 1 f fd ["self", "path"] (spErr C ["path"]) := by
  refine F.ok scINoFolder (fun vs H Q E h => spErr_len h) (fun cdv A outer s H vs Q E hr h => ?_)
  obtain ⟨x, us, rfl, hl, hx, k⟩ := h
  match us, hl, k with
  | [u0], _, k =>
    refine ⟨_, pss_one (ps_xfld (pv 0) (pv 1) rfl), ?_⟩
    refine ⟨_, rfl, _, rfl, x, true, C, rfl, c.cl, c.no _ (by simp), .inl ⟨hx, fun dx hd => ?_⟩⟩
    have xd : x ≠ dx := ne_of_none hx hd
    exact k dx _ hd upd_same (by rw [upd_ne xd.symm, upd_same]; rfl) fun b o e hb => by rw [upd_ne hb, upd_ne (ne_of_none e hd)]; exact e
theorem scSNoFolder : FnScope ["self"] ["self"] (defScope sSNoFolder) := ⟨rfl, rfl, rfl, by decide +kernel, rfl, by decide +kernel, by decide +kernel⟩
theorem okSNoFolder {f C : Addr} {fd : FuncData} (F : Fun K "__str__" "NoFolder.__str__" sSNoFolder f fd) (c : XOwn K C ["path"]) : FnH P w K mg base 1 f fd ["self"] (spXS C "NoFolder" ["path"]) := by
  refine F.okH scSNoFolder (fun vs H Q E h => ?_) (fun cdv A outer s H vs Q E hr h => ?_)
  · obtain ⟨x, dx, nw, us, zs, rfl, _⟩ := h; rfl
  obtain ⟨x, dx, nw, us, zs, rfl, hl, hx, hd, hz, k⟩ := h
  match us, hl, zs, hz with
  | [u0], _, [z0], .cons h0 (.nil) =>
    have e0 : ("NoFolder " : Str) = ("NoFolder" : Str) ++ (" " : Str) := by decide +kernel
    have ln : ("NoFolder " : Str).length = 9 := by decide +kernel
    have l1 : (" " : Str).length = 1 := by decide +kernel
    have qz : sizeLine = 16777216 := by decide
    have g0 := fmt_len h0
    refine ⟨_, pss_one (ps_ret (pe_fstr (pj_cons pe_str (pj_cons (pe_fv (pe_xfld (pv 0) rfl)) pj_nil)))), ?_⟩
    refine ⟨_, rfl, by rw [Str.empty_append]; decide +kernel, _, rfl, x, nw, C, dx, _, _, rfl, hx, hd, c.is.toXGet, c.no _ (by simp), rfl, fmt_r h0 ⟨_, rfl, by simp only [Str.empty_append, strLen_append]; omega, ?_⟩⟩
    refine ⟨by simp only [Str.empty_append, strLen_append]; omega, ?_⟩
    rw [Str.empty_append, e0]
    exact k
theorem scINoPledge : FnScope ["self", "ticket"] ["self", "ticket"] (defScope sINoPledge) := ⟨rfl, rfl, rfl, by decide +kernel, rfl, by decide +kernel, by decide +kernel⟩
theorem okINoPledge {f C : Addr} {fd : FuncData} (F : Fun K "__init__" "NoPledge.__init__" sINoPledge f fd) (c : XOwn K C ["ticket"]) : FnOk P w K mg base CX0 1 f fd ["self", "ticket"] (spErr C ["ticket"]) := by
  refine F.ok scINoPledge (fun vs H Q E h => spErr_len h) (fun cdv A outer s H vs Q E hr h => ?_)
  obtain ⟨x, us, rfl, hl, hx, k⟩ := h
  match us, hl, k with
  | [u0], _, k =>
    refine ⟨_, pss_one (ps_xfld (pv 0) (pv 1) rfl), ?_⟩
    refine ⟨_, rfl, _, rfl, x, true, C, rfl, c.cl, c.no _ (by simp), .inl ⟨hx, fun dx hd => ?_⟩⟩
    have xd : x ≠ dx := ne_of_none hx hd
    exact k dx _ hd upd_same (by rw [upd_ne xd.symm, upd_same]; rfl) fun b o e hb => by rw [upd_ne hb, upd_ne (ne_of_none e hd)]; exact e
theorem scSNoPledge : FnScope ["self"] ["self"] (defScope sSNoPledge) := ⟨rfl, rfl, rfl, by decide +kernel, rfl, by decide +kernel, by decide +kernel⟩
theorem okSNoPledge {f C : Addr} {fd : FuncData} (F : Fun K "__str__" "NoPledge.__str__" sSNoPledge f fd) (c : XOwn K C ["ticket"]) : FnH P w K mg base 1 f fd ["self"] (spXS C "NoPledge" ["ticket"]) := by
  refine F.okH scSNoPledge (fun vs H Q E h => ?_) (fun cdv A outer s H vs Q E hr h => ?_)
  · obtain ⟨x, dx, nw, us, zs, rfl, _⟩ := h; rfl
  obtain ⟨x, dx, nw, us, zs, rfl, hl, hx, hd, hz, k⟩ := h
  match us, hl, zs, hz with
  | [u0], _, [z0], .cons h0 (.nil) =>
    have e0 : ("NoPledge " : Str) = ("NoPledge" : Str) ++ (" " : Str) := by decide +kernel
    have ln : ("NoPledge " : Str).length = 9 := by decide +kernel
    have l1 : (" " : Str).length = 1 := by decide +kernel
    have qz : sizeLine = 16777216 := by decide
    have g0 := fmt_len h0
    refine ⟨_, pss_one (ps_ret (pe_fstr (pj_cons pe_str (pj_cons (pe_fv (pe_xfld (pv 0) rfl)) pj_nil)))), ?_⟩
    refine ⟨_, rfl, by rw [Str.empty_append]; decide +kernel, _, rfl, x, nw, C, dx, _, _, rfl, hx, hd, c.is.toXGet, c.no _ (by simp), rfl, fmt_r h0 ⟨_, rfl, by simp only [Str.empty_append, strLen_append]; omega, ?_⟩⟩
    refine ⟨by simp only [Str.empty_append, strLen_append]; omega, ?_⟩
    rw [Str.empty_append, e0]
    exact k
theorem scSGone : FnScope ["self"] ["self"] (defScope sSGone) := ⟨rfl, rfl, rfl, by decide +kernel, rfl, by decide +kernel, by decide +kernel⟩
theorem okSGone {f C : Addr} {fd : FuncData} (F : Fun K "__str__" "Gone.__str__" sSGone f fd) : FnH P w K mg base 1 f fd ["self"] (spXS0 C "Gone") := by
  refine F.okH scSGone (fun vs H Q E h => ?_) (fun cdv A outer s H vs Q E hr h => ?_)
  · obtain ⟨x, nw, rfl, _⟩ := h; rfl
  obtain ⟨x, nw, rfl, hx, k⟩ := h
  exact ⟨_, pss_one (ps_ret pe_str), k⟩
theorem scSStale : FnScope ["self"] ["self"] (defScope sSStale) := ⟨rfl, rfl, rfl, by decide +kernel, rfl, by decide +kernel, by decide +kernel⟩
theorem okSStale {f C : Addr} {fd : FuncData} (F : Fun K "__str__" "Stale.__str__" sSStale f fd) : FnH P w K mg base 1 f fd ["self"] (spXS0 C "Stale") := by
  refine F.okH scSStale (fun vs H Q E h => ?_) (fun cdv A outer s H vs Q E hr h => ?_)
  · obtain ⟨x, nw, rfl, _⟩ := h; rfl
  obtain ⟨x, nw, rfl, hx, k⟩ := h
  exact ⟨_, pss_one (ps_ret pe_str), k⟩
theorem scSUnplayed : FnScope ["self"] ["self"] (defScope sSUnplayed) := ⟨rfl, rfl, rfl, by decide +kernel, rfl, by decide +kernel, by decide +kernel⟩
theorem okSUnplayed {f C : Addr} {fd : FuncData} (F : Fun K "__str__" "Unplayed.__str__" sSUnplayed f fd) : FnH P w K mg base 1 f fd ["self"] (spXS0 C "Unplayed") := by
  refine F.okH scSUnplayed (fun vs H Q E h => ?_) (fun cdv A outer s H vs Q E hr h => ?_)
  · obtain ⟨x, nw, rfl, _⟩ := h; rfl
  obtain ⟨x, nw, rfl, hx, k⟩ := h
  exact ⟨_, pss_one (ps_ret pe_str), k⟩
theorem scSNotHere : FnScope ["self"] ["self"] (defScope sSNotHere) := ⟨rfl, rfl, rfl, by decide +kernel, rfl, by decide +kernel, by decide +kernel⟩
theorem okSNotHere {f C : Addr} {fd : FuncData} (F : Fun K "__str__" "NotHere.__str__" sSNotHere f fd) : FnH P w K mg base 1 f fd ["self"] (spXS0 C "NotHere") := by
  refine F.okH scSNotHere (fun vs H Q E h => ?_) (fun cdv A outer s H vs Q E hr h => ?_)
  · obtain ⟨x, nw, rfl, _⟩ := h; rfl
  obtain ⟨x, nw, rfl, hx, k⟩ := h
  exact ⟨_, pss_one (ps_ret pe_str), k⟩
theorem scSBadLine : FnScope ["self"] ["self"] (defScope sSBadLine) := ⟨rfl, rfl, rfl, by decide +kernel, rfl, by decide +kernel, by decide +kernel⟩
theorem okSBadLine {f C : Addr} {fd : FuncData} (F : Fun K "__str__" "BadLine.__str__" sSBadLine f fd) : FnH P w K mg base 1 f fd ["self"] (spXS0 C "BadLine") := by
  refine F.okH scSBadLine (fun vs H Q E h => ?_) (fun cdv A outer s H vs Q E hr h => ?_)
  · obtain ⟨x, nw, rfl, _⟩ := h; rfl
  obtain ⟨x, nw, rfl, hx, k⟩ := h
  exact ⟨_, pss_one (ps_ret pe_str), k⟩
theorem scSCut : FnScope ["self"] ["self"] (defScope sSCut) := ⟨rfl, rfl, rfl, by decide +kernel, rfl, by decide +kernel, by decide +kernel⟩
theorem okSCut {f C : Addr} {fd : FuncData} (F : Fun K "__str__" "Cut.__str__" sSCut f fd) : FnH P w K mg base 1 f fd ["self"] (spXS0 C "Cut") := by
  refine F.okH scSCut (fun vs H Q E h => ?_) (fun cdv A outer s H vs Q E hr h => ?_)
  · obtain ⟨x, nw, rfl, _⟩ := h; rfl
  obtain ⟨x, nw, rfl, hx, k⟩ := h
  exact ⟨_, pss_one (ps_ret pe_str), k⟩
end
end K21


namespace K21
open PySem L2 SS
section
variable {P : Program} {w : World} {K : PySem.W.Frag} {mg : Str → Option Value} {base : Heap}
def spSign : Sp := fun vs H Q _ => ∃ (b c : Addr), vs = [.ref b] ∧ BagAt H b c ∧ ∀ (g : Nat) (xs : List V), g < 128 → BagAt (upd H b (.lst xs)) b c → Q (.str ⟨#[g]⟩) (upd H b (.lst xs))
theorem scSign : FnScope ["_law_bag_here"] ["_law_bag_here"] (defScope sSign) := ⟨rfl, rfl, rfl, by decide +kernel, rfl, by decide +kernel, by decide +kernel⟩
theorem ok_sign {f : Addr} {fd : FuncData} (F : Fun K "_law_sign" "_law_sign" sSign f fd) (T : Txt K mg) (hPull : Has P w K mg base 1 "_law_pull" ["_law_bag_here", "_law_top"] spPull) : FnOk P w K mg base CX0 2 f fd ["_law_bag_here"] spSign := by
  refine F.ok scSign (fun vs H Q E h => ?_) (fun cdv A outer s H vs Q E hr h => ?_)
  · obtain ⟨b, c, rfl, _⟩ := h; rfl
  · obtain ⟨b, c, rfl, B, k⟩ := h
    refine ⟨_, pss_one (ps_ret (pe_ix ix_str pe_str (pe_fn hPull hr (by rfl) (pa_cons (pv 0) (pa_cons pe_int pa_nil))) (fun _ _ => rfl))), ?_⟩
    refine ⟨_, rfl, b, c, 36, rfl, by decide, by decide, B, fun v xs g1 g2 B1 => ?_⟩
    obtain ⟨g, hg, gl⟩ : ∃ g, atI ("abcdefghijklmnopqrstuvwxyz0123456789" : Str).cps.toList v = some g ∧ g < 128 := by
      have hl : ("abcdefghijklmnopqrstuvwxyz0123456789" : Str).cps.toList.length = 36 := by decide +kernel
      have hv : v.toNat < ("abcdefghijklmnopqrstuvwxyz0123456789" : Str).cps.toList.length := by rw [hl]; omega
      have ha : ∀ n ∈ ("abcdefghijklmnopqrstuvwxyz0123456789" : Str).cps.toList, n < 128 := by decide +kernel
      exact ⟨_, atI_int g1 (List.getElem?_eq_getElem hv), ha _ (List.getElem_mem hv)⟩
    exact ⟨_, v, g, rfl, rfl, by decide +kernel, hg, k g xs gl B1⟩
def spName : Sp := fun vs H Q _ => ∃ (b c : Addr) (m : Int), vs = [.ref b, .int m] ∧ 0 < m ∧ m ≤ 100 ∧ BagAt H b c ∧ ∀ (z : Str) (H' : Hp), SameX b H H' → BagAt H' b c → z.length ≤ 101 → PyData.strOk z = true → Q (.str z) H'
abbrev nmName : List Str := ["_law_bag_here", "_law_most", "_law_k"]
theorem scName : FnScope nmName ["_law_bag_here", "_law_most"] (defScope sName) := ⟨rfl, rfl, rfl, by decide +kernel, rfl, by decide +kernel, by decide +kernel⟩
theorem ok_name {f : Addr} {fd : FuncData} (F : Fun K "_law_name" "_law_name" sName f fd) (T : Txt K mg) (hPull : Has P w K mg base 1 "_law_pull" ["_law_bag_here", "_law_top"] spPull) (hSign : Has P w K mg base 2 "_law_sign" ["_law_bag_here"] spSign) : FnOk P w K mg base CX0 3 f fd ["_law_bag_here", "_law_most"] spName := by
  refine F.ok scName (fun vs H Q E h => ?_) (fun cdv A outer s H vs Q E hr h => ?_)
  · obtain ⟨b, c, m, rfl, _⟩ := h; rfl
  · obtain ⟨b, c, m, rfl, m0, m1, B, k⟩ := h
    have hr1 : Room 1 _ := hr.mono (by decide)
    refine ⟨_, pss_one (ps_ret (pe_join pe_str (pe_lc (own := [("_law_k", 2)]) (g := gName 2) (by rfl) scName.nd (pi_range1 (by rfl) T.range (pa_cons (pe_op op_add pe_int (pe_fn hPull hr1 (by rfl) (pa_cons (pv 0) (pa_cons (pv 1) pa_nil)))) pa_nil)) (blkOk_by (own := [("_law_k", 2)]) (N := nmName) (sc := defScope sName) (by decide +kernel)) (fun _ _ _ _ _ => pg_name (i := 2) scName.nd rfl (Or.inl rfl)) (fun _ _ _ _ _ => pts_nil) (fun _ _ _ _ _ => pe_fn hSign hr (by rfl) (pa_cons (pv 0) pa_nil))))), ?_⟩
    refine ⟨⟨_, rfl⟩, _, rfl, _, rfl, b, c, m, rfl, m0, by omega, B, fun v xs g1 g2 B1 => ?_⟩
    refine ⟨_, _, rfl, rfl, 1 + v, rfl, by omega, by omega, fun D hD => ?_⟩
    obtain ⟨Db, Dc⟩ := B1.new hD
    have hD0 : H D = none := by rw [upd_ne Db] at hD; exact hD
    refine lc_range (n := (1 + v).toNat) (fun i H2 => ∃ zs : List Str, zs.length = i ∧ (∀ z ∈ zs, z.length = 1 ∧ PyData.strOk z = true) ∧ SameX b H H2 ∧ BagAt H2 b c ∧ H2 D = some (.lst (zs.map V.str))) ?_ ?_ ?_
    · exact ⟨[], rfl, by simp, ((SameX.refl b H).bag).new hD0, B1.other ⟨Db, Dc⟩, upd_same⟩
    · rintro i H2 hi ⟨zs, hl, h1, sm, B2, hD2⟩
      refine ⟨rfl, ?_⟩
      dsimp only [tYes]
      rw [if_pos rfl]
      refine ⟨_, rfl, b, c, rfl, B2, fun g xs2 gl B3 => ⟨_, by rw [upd_ne Db]; exact hD2, small1000 (by rw [List.length_map]; omega), zs ++ [⟨#[g]⟩], by simp [hl], ?_, (sm.bag).new hD0, B3.other ⟨Db, Dc⟩, by rw [upd_same, List.map_append]; rfl⟩⟩
      intro z hz
      rcases List.mem_append.mp hz with hz | hz
      · exact h1 z hz
      · rw [List.mem_singleton.mp hz]
        refine ⟨rfl, ?_⟩
        simp [PyData.strOk]
        omega
    · rintro H2 ⟨zs, hl, h1, sm, B2, hD2⟩
      have hsum : (zs.map (·.length)).sum = zs.length := by
        have : ∀ l : List Str, (∀ z ∈ l, z.length = 1) → (l.map (·.length)).sum = l.length := fun l => by
          induction l with
          | nil => intro _; rfl
          | cons a r ih => intro h; rw [List.map_cons, List.sum_cons, List.length_cons, ih fun z hz => h z (List.mem_cons_of_mem _ hz), h a (List.mem_cons_self ..)]; omega
        exact this zs fun z hz => (h1 z hz).1
      refine ⟨_, D, zs, rfl, rfl, .inl (SqL.of hD2), ?_, k _ H2 sm B2 ?_ ?_⟩
      · rw [hsum, show ("" : Str).length = 0 from rfl]; omega
      · rw [TL.join_eq]
        have := join_len ("" : Str) zs
        rw [hsum, show ("" : Str).length = 0 from rfl] at this
        omega
      · rw [TL.join_eq]
        exact strOk_join _ (strOk_ofs _) fun z hz => (h1 z hz).2
def spErrT (P : Program) (w : World) (K : PySem.W.Frag) (mg : Str → Option Value) (base : Heap) : Sp := fun vs H Q _ => ∃ (x dx l C : Addr) (nm : Str) (fn : List Str) (nw : Bool) (us : List V) (zs : List Str), vs = [.ref x, .str nm, .ref l] ∧ XStr P w K mg base C (spXS C nm fn) ∧ us.length = fn.length ∧ H x = some (ExcO nw C x (some dx)) ∧ H dx = some (XdO dx (fn.zip us)) ∧ Fmts us zs ∧ nm.length ≤ 100 ∧ H l = some (.lst us) ∧ us.length ≤ 10 ∧ ∀ H', Same H H' → Q (.bl true) H'
abbrev nmErr : List Str := ["_law_e", "_law_name_here", "_law_fields_here", "_law_one"]
theorem scErr : FnScope nmErr ["_law_e", "_law_name_here", "_law_fields_here"] (defScope sErr) := ⟨rfl, rfl, rfl, by decide +kernel, rfl, by decide +kernel, by decide +kernel⟩
theorem ok_error {f : Addr} {fd : FuncData} (F : Fun K "_law_error" "_law_error" sErr f fd) (T : Txt K mg) : FnOk P w K mg base CX0 4 f fd ["_law_e", "_law_name_here", "_law_fields_here"] (spErrT P w K mg base) := by
  refine F.ok scErr (fun vs H Q E h => ?_) (fun cdv A outer s H vs Q E hr h => ?_)
  · obtain ⟨x, dx, l, C, nm, fn, nw, us, zs, rfl, _⟩ := h; rfl
  · obtain ⟨x, dx, l, C, nm, fn, nw, us, zs, rfl, hX, hl, hx, hd, hz, hn, hL, h10, k⟩ := h
    refine ⟨_, pss_one (ps_ret (pe_cmpR op_eq (pe_callTy (call_strE hr.h) (by rfl) T.str (by decide +kernel) (pa_cons (pv 0) pa_nil)) (pe_join pe_str (pe_op op_cat (pe_lst (pa_cons (pv 1) pa_nil)) (pe_lc (own := [("_law_one", 3)]) (g := gName 3) (by rfl) scErr.nd (pi_list (pv 2)) (blkOk_by (own := [("_law_one", 3)]) (N := nmErr) (sc := defScope sErr) (by decide +kernel)) (fun _ _ _ _ _ => pg_name (i := 3) scErr.nd rfl (Or.inl rfl)) (fun _ _ _ _ _ => pts_nil) (fun _ _ _ _ _ => pe_callTy call_strS (by rfl) T.str (by decide +kernel) (pa_cons (pv 3) pa_nil))))) (nomark _))), ?_⟩
    obtain ⟨zl, zsum⟩ := hz.lens
    refine ⟨_, rfl, .inl ⟨x, dx, C, nm, fn, nw, us, zs, rfl, hX, hl, hx, hd, hz, ?_⟩⟩
    refine ⟨⟨_, rfl⟩, _, rfl, (by show 1 ≤ sizeLine; decide), fun p hp => ?_⟩
    have hL1 := (same_new hp (o := .lst [V.str nm])) _ _ hL
    have ep : upd H p (.lst [V.str nm]) p = some (.lst [V.str nm]) := upd_same
    have s1 := same_new hp (o := .lst [V.str nm])
    generalize upd H p (.lst [V.str nm]) = H1 at hL1 ep s1 ⊢
    refine ⟨_, rfl, l, rfl, ⟨_, SqL.of hL1⟩, fun D hD => ?_⟩
    refine lc_list (K := K) (a := l) (xs := us) (fun j H3 => H3 = upd H1 D (.lst ((zs.take j).map V.str))) rfl ?_ ?_ ?_
    · rintro j H3 _ rfl
      exact SqL.of ((same_new hD) _ _ hL1)
    · rintro j v H3 hv rfl
      obtain ⟨z, ez, fz⟩ := hz.get hv
      refine ⟨rfl, ?_⟩
      dsimp only [tYes]
      rw [if_pos rfl]
      refine ⟨_, rfl, v, z, rfl, fz, _, upd_same, small1000 (by rw [List.length_map, List.length_take]; omega), ?_⟩
      rw [upd_upd, List.take_succ, ez, List.map_append]
      rfl
    · rintro H3 rfl
      rw [← zl, List.take_length]
      have pD : p ≠ D := ne_of_none ep hD
      refine ⟨p, D, _, _, rfl, rfl, by rw [upd_ne pD]; exact ep, upd_same, Nat.le_of_lt (small1000 (by rw [List.length_map]; simp; omega)), fun q hq => ?_⟩
      refine ⟨_, q, nm :: zs, rfl, rfl, .inl (SqL.of upd_same), ?_, rfl, ?_⟩
      · rw [List.map_cons, List.sum_cons, List.length_cons, show (" " : Str).length = 1 from by decide +kernel]
        omega
      · rw [TL.join_eq, join_errTxt]
        rw [show decide (V.str (errTxt nm zs) = V.str (errTxt nm zs)) = true from decide_eq_true rfl]
        exact k _ ((s1.trans (same_new hD)).trans (same_new hq))
end
end K21


namespace K21
open PySem L2 SS
section
variable {P : Program} {w : World} {K : PySem.W.Frag} {mg : Str → Option Value} {base : Heap}
def spFie : Sp := fun vs H Q _ => ∃ (a b : Int) (p : Str), vs = [.int a, .int b, .str p] ∧ a.natAbs < 2 ^ 60 ∧ b.natAbs < 2 ^ 60 ∧ p.length ≤ 200 ∧ PyData.strOk p = true ∧ ∀ H', Same H H' → Q (.bl true) H'
abbrev nmFie : List Str := ["_law_a", "_law_b", "_law_path", "_law_full", "_law_over", "_law_grace_over", "_law_dry", "_law_short", "_law_undone"]
theorem scFie : FnScope nmFie ["_law_a", "_law_b", "_law_path"] (defScope sFie) := ⟨rfl, rfl, rfl, by decide +kernel, rfl, by decide +kernel, by decide +kernel⟩
structure ErrA (P : Program) (w : World) (K : PySem.W.Frag) (mg : Str → Option Value) (base : Heap) (c1 c2 c3 c4 c5 c6 : Addr) : Prop where
  nr : XF P w K mg base "NoRoom" c1 ["asked", "there", "helps"]
  ol : XF P w K mg base "OverLimit" c2 ["whose", "asked", "most"]
  go : XF P w K mg base "GraceOver" c3 ["whose", "began"]
  dr : XF P w K mg base "Dry" c4 ["ticket", "asked", "there"]
  sh : XF P w K mg base "Short" c5 ["asked", "there"]
  un : XF P w K mg base "Undone" c6 ["at", "why"]
set_option maxHeartbeats 4000000 in
theorem ok_fie {f c1 c2 c3 c4 c5 c6 : Addr} {fd : FuncData} (F : Fun K "_law_fields" "_law_fields" sFie f fd) (T : Txt K mg) (e : ErrA P w K mg base c1 c2 c3 c4 c5 c6) (hE : Has P w K mg base 4 "_law_error" ["_law_e", "_law_name_here", "_law_fields_here"] (spErrT P w K mg base)) : FnOk P w K mg base CX0 5 f fd ["_law_a", "_law_b", "_law_path"] spFie := by
  refine F.ok scFie (fun vs H Q E h => ?_) (fun cdv A outer s H vs Q E hr h => ?_)
  · obtain ⟨a, b, p, rfl, _⟩ := h; rfl
  · obtain ⟨a, b, p, rfl, ha, hb, hp, po, k⟩ := h
    have hr2 : Room 2 _ := hr.mono (by decide)
    refine ⟨_, pss_cons (ps_set (i := 3) scFie.nd rfl (Or.inl rfl) (pe_xm e.nr hr2 (by rfl) (by decide) (pa_cons (pv 0) (pa_cons (pv 1) (pa_cons (pe_cmpR op_gt (pv 0) (pv 1) (nomark _)) pa_nil)))))
      (pss_cons (ps_set (i := 4) scFie.nd rfl (Or.inl rfl) (pe_xm e.ol hr2 (by rfl) (by decide) (pa_cons (pv 2) (pa_cons (pv 0) (pa_cons (pv 1) pa_nil)))))
      (pss_cons (ps_set (i := 5) scFie.nd rfl (Or.inl rfl) (pe_xm e.go hr2 (by rfl) (by decide) (pa_cons (pv 0) (pa_cons (pv 1) pa_nil))))
      (pss_cons (ps_set (i := 6) scFie.nd rfl (Or.inl rfl) (pe_xm e.dr hr2 (by rfl) (by decide) (pa_cons (pv 0) (pa_cons (pv 1) (pa_cons pe_int pa_nil)))))
      (pss_cons (ps_set (i := 7) scFie.nd rfl (Or.inl rfl) (pe_xm e.sh hr2 (by rfl) (by decide) (pa_cons (pv 0) (pa_cons (pv 1) pa_nil))))
      (pss_cons (ps_set (i := 8) scFie.nd rfl (Or.inl rfl) (pe_xm e.un hr2 (by rfl) (by decide) (pa_cons (pv 0) (pa_cons (pe_op op_add_str pe_str (pv 2)) pa_nil))))
      (pss_cut (ps_if (PW.pt (pw_or (pt_cmpR (op_neD hr.units) (pe_tup (pa_cons (pe_xfld (pv 3) rfl) (pa_cons (pe_xfld (pv 3) rfl) (pa_cons (pe_xfld (pv 3) rfl) pa_nil)))) (pe_tup (pa_cons (pv 0) (pa_cons (pv 1) (pa_cons (pe_cmpR op_gt (pv 0) (pv 1) (nomark _)) pa_nil)))) (nomark _)) (pw_or1 (pt_cmpR (op_neD hr.units) (pe_tup (pa_cons (pe_xfld (pv 4) rfl) (pa_cons (pe_xfld (pv 4) rfl) (pa_cons (pe_xfld (pv 4) rfl) pa_nil)))) (pe_tup (pa_cons (pv 2) (pa_cons (pv 0) (pa_cons (pv 1) pa_nil)))) (nomark _))))) (pss_one (ps_ret pe_bl)) pss_nil)
      (pss_cut (ps_if (PW.pt (pw_or (pt_cmpR (op_neD hr.units) (pe_tup (pa_cons (pe_xfld (pv 5) rfl) (pa_cons (pe_xfld (pv 5) rfl) pa_nil))) (pe_tup (pa_cons (pv 0) (pa_cons (pv 1) pa_nil))) (nomark _)) (pw_or1 (pt_cmpR (op_neD hr.units) (pe_tup (pa_cons (pe_xfld (pv 6) rfl) (pa_cons (pe_xfld (pv 6) rfl) (pa_cons (pe_xfld (pv 6) rfl) pa_nil)))) (pe_tup (pa_cons (pv 0) (pa_cons (pv 1) (pa_cons pe_int pa_nil)))) (nomark _))))) (pss_one (ps_ret pe_bl)) pss_nil)
      (pss_cut (ps_if (PW.pt (pw_or (pt_cmpR (op_neD hr.units) (pe_tup (pa_cons (pe_xfld (pv 7) rfl) (pa_cons (pe_xfld (pv 7) rfl) pa_nil))) (pe_tup (pa_cons (pv 0) (pa_cons (pv 1) pa_nil))) (nomark _)) (pw_or1 (pt_cmpR (op_neD hr.units) (pe_tup (pa_cons (pe_xfld (pv 8) rfl) (pa_cons (pe_xfld (pv 8) rfl) pa_nil))) (pe_tup (pa_cons (pv 0) (pa_cons (pe_op op_add_str pe_str (pv 2)) pa_nil))) (nomark _))))) (pss_one (ps_ret pe_bl)) pss_nil)
      (pss_cut (ps_if (PW.pt (pw_or (pt_not (pt_val (pe_fn hE hr (by rfl) (pa_cons (pv 3) (pa_cons pe_str (pa_cons (pe_lst (pa_cons (pv 0) (pa_cons (pv 1) (pa_cons (pe_cmpR op_gt (pv 0) (pv 1) (nomark _)) pa_nil)))) pa_nil)))))) (pw_or1 (pt_not (pt_val (pe_fn hE hr (by rfl) (pa_cons (pv 4) (pa_cons pe_str (pa_cons (pe_lst (pa_cons (pv 2) (pa_cons (pv 0) (pa_cons (pv 1) pa_nil)))) pa_nil))))))))) (pss_one (ps_ret pe_bl)) pss_nil)
      (pss_cut (ps_if (PW.pt (pw_or (pt_not (pt_val (pe_fn hE hr (by rfl) (pa_cons (pv 5) (pa_cons pe_str (pa_cons (pe_lst (pa_cons (pv 0) (pa_cons (pv 1) pa_nil))) pa_nil)))))) (pw_or1 (pt_not (pt_val (pe_fn hE hr (by rfl) (pa_cons (pv 6) (pa_cons pe_str (pa_cons (pe_lst (pa_cons (pv 0) (pa_cons (pv 1) (pa_cons pe_int pa_nil)))) pa_nil))))))))) (pss_one (ps_ret pe_bl)) pss_nil)
      (pss_one (ps_ret (pe_and (pe_fn hE hr (by rfl) (pa_cons (pv 7) (pa_cons pe_str (pa_cons (pe_lst (pa_cons (pv 0) (pa_cons (pv 1) pa_nil))) pa_nil)))) (pe_one (pe_fn hE hr (by rfl) (pa_cons (pv 8) (pa_cons pe_str (pa_cons (pe_lst (pa_cons (pv 0) (pa_cons (pe_op op_add_str pe_str (pv 2)) pa_nil))) pa_nil)))))))))))))))))), ?_⟩
    refine ⟨_, rfl, _, rfl, _, rfl, _, rfl, _, _, rfl, rfl, rfl, fun x1 d1 H1 s1 _ _ e1 f1 => ?_⟩
    refine ⟨_, rfl, _, rfl, _, rfl, rfl, fun x2 d2 H2 s2 _ _ e2 f2 => ?_⟩
    refine ⟨_, rfl, _, rfl, rfl, fun x3 d3 H3 s3 _ _ e3 f3 => ?_⟩
    refine ⟨_, rfl, _, rfl, rfl, fun x4 d4 H4 s4 _ _ e4 f4 => ?_⟩
    refine ⟨_, rfl, _, rfl, rfl, fun x5 d5 H5 s5 _ _ e5 f5 => ?_⟩
    have l7 : ("NoFile " : Str).length = 7 := by decide +kernel
    have pn := strOk_app (strOk_ofs "NoFile ") po
    have qz : sizeLine = 16777216 := by decide
    refine ⟨_, rfl, _, rfl, _, _, rfl, rfl, by omega, rfl, fun x6 d6 H6 s6 _ _ e6 f6 => ?_⟩
    have t4 := s5.trans s6
    have t3 := s4.trans t4
    have t2 := s3.trans t3
    have t1 := s2.trans t2
    have t0 := s1.trans t1
    replace e1 := t1 _ _ e1
    replace f1 := t1 _ _ f1
    replace e2 := t2 _ _ e2
    replace f2 := t2 _ _ f2
    replace e3 := t3 _ _ e3
    replace f3 := t3 _ _ f3
    replace e4 := t4 _ _ e4
    replace f4 := t4 _ _ f4
    replace e5 := s6 _ _ e5
    replace f5 := s6 _ _ f5
    clear s1 s2 s3 s4 s5 s6 t1 t2 t3 t4
    have lga : a.natAbs.log2 < 1920 := log_small (by omega)
    have lgb : b.natAbs.log2 < 1920 := log_small (by omega)
    have lg3 : (3 : Int).natAbs.log2 < 1920 := by decide
    have fa : fmt1 (.int a) _ := .inl ⟨a, rfl, lga, rfl⟩
    have fb : fmt1 (.int b) _ := .inl ⟨b, rfl, lgb, rfl⟩
    have f3' : fmt1 (.int 3) _ := .inl ⟨3, rfl, lg3, rfl⟩
    have fp : fmt1 (.str p) p := .inr (.inl ⟨rfl, by omega⟩)
    have fq : fmt1 (.str (("NoFile " : Str) ++ p)) _ := .inr (.inl ⟨rfl, by rw [strLen_append]; omega⟩)
    have fl : ∀ q : Bool, fmt1 (.bl q) _ := fun q => .inr (.inr ⟨q, rfl, rfl⟩)
    have sm : Same H6 H6 := fun _ _ e => e
    refine ⟨fun σ' H' => σ' = [some (.int a), some (.int b), some (.str p), some (.ref x1), some (.ref x2), some (.ref x3), some (.ref x4), some (.ref x5), some (.ref x6)] ∧ Same H6 H', ?_, ?_⟩
    · refine ⟨_, rfl, x1, true, c1, d1, _, _, rfl, sm _ _ e1, sm _ _ f1, e.nr.own.is.toXGet, e.nr.own.no _ (by simp), rfl, _, rfl, x1, true, c1, d1, _, _, rfl, sm _ _ e1, sm _ _ f1, e.nr.own.is.toXGet, e.nr.own.no _ (by simp), rfl, _, rfl, x1, true, c1, d1, _, _, rfl, sm _ _ e1, sm _ _ f1, e.nr.own.is.toXGet, e.nr.own.no _ (by simp), rfl, (by show 3 ≤ sizeLine; decide), fun ta hta => ⟨_, rfl, _, rfl, _, rfl, _, rfl, _, _, rfl, rfl, (by show 3 ≤ sizeLine; decide), fun tb htb => ne_tup ((same_new htb) _ _ upd_same) upd_same (.cons (.int a) (.cons (.int b) (.cons (.bl _) .nil))) (by simp [PyData.canLay0, PyData.canLayAll0, po, pn]) (Nat.le_of_ble_eq_true rfl) ⟨_, rfl, iteF ?_⟩⟩⟩
      refine ⟨_, rfl, x2, true, c2, d2, _, _, rfl, ((sm.trans (same_new hta)).trans (same_new htb)) _ _ e2, ((sm.trans (same_new hta)).trans (same_new htb)) _ _ f2, e.ol.own.is.toXGet, e.ol.own.no _ (by simp), rfl, _, rfl, x2, true, c2, d2, _, _, rfl, ((sm.trans (same_new hta)).trans (same_new htb)) _ _ e2, ((sm.trans (same_new hta)).trans (same_new htb)) _ _ f2, e.ol.own.is.toXGet, e.ol.own.no _ (by simp), rfl, _, rfl, x2, true, c2, d2, _, _, rfl, ((sm.trans (same_new hta)).trans (same_new htb)) _ _ e2, ((sm.trans (same_new hta)).trans (same_new htb)) _ _ f2, e.ol.own.is.toXGet, e.ol.own.no _ (by simp), rfl, (by show 3 ≤ sizeLine; decide), fun tc htc => ⟨_, rfl, _, rfl, _, rfl, (by show 3 ≤ sizeLine; decide), fun td htd => ne_tup ((same_new htd) _ _ upd_same) upd_same (.cons (.str p) (.cons (.int a) (.cons (.int b) .nil))) (by simp [PyData.canLay0, PyData.canLayAll0, po, pn]) (Nat.le_of_ble_eq_true rfl) ⟨_, rfl, iteF ?_⟩⟩⟩
      exact ⟨rfl, ((((sm.trans (same_new hta)).trans (same_new htb)).trans (same_new htc)).trans (same_new htd))⟩
    rintro σ' H' ⟨rfl, sm⟩
    refine ⟨fun σ' H' => σ' = [some (.int a), some (.int b), some (.str p), some (.ref x1), some (.ref x2), some (.ref x3), some (.ref x4), some (.ref x5), some (.ref x6)] ∧ Same H6 H', ?_, ?_⟩
    · refine ⟨_, rfl, x3, true, c3, d3, _, _, rfl, sm _ _ e3, sm _ _ f3, e.go.own.is.toXGet, e.go.own.no _ (by simp), rfl, _, rfl, x3, true, c3, d3, _, _, rfl, sm _ _ e3, sm _ _ f3, e.go.own.is.toXGet, e.go.own.no _ (by simp), rfl, (by show 2 ≤ sizeLine; decide), fun ta hta => ⟨_, rfl, _, rfl, (by show 2 ≤ sizeLine; decide), fun tb htb => ne_tup ((same_new htb) _ _ upd_same) upd_same (.cons (.int a) (.cons (.int b) .nil)) (by simp [PyData.canLay0, PyData.canLayAll0, po, pn]) (Nat.le_of_ble_eq_true rfl) ⟨_, rfl, iteF ?_⟩⟩⟩
      refine ⟨_, rfl, x4, true, c4, d4, _, _, rfl, ((sm.trans (same_new hta)).trans (same_new htb)) _ _ e4, ((sm.trans (same_new hta)).trans (same_new htb)) _ _ f4, e.dr.own.is.toXGet, e.dr.own.no _ (by simp), rfl, _, rfl, x4, true, c4, d4, _, _, rfl, ((sm.trans (same_new hta)).trans (same_new htb)) _ _ e4, ((sm.trans (same_new hta)).trans (same_new htb)) _ _ f4, e.dr.own.is.toXGet, e.dr.own.no _ (by simp), rfl, _, rfl, x4, true, c4, d4, _, _, rfl, ((sm.trans (same_new hta)).trans (same_new htb)) _ _ e4, ((sm.trans (same_new hta)).trans (same_new htb)) _ _ f4, e.dr.own.is.toXGet, e.dr.own.no _ (by simp), rfl, (by show 3 ≤ sizeLine; decide), fun tc htc => ⟨_, rfl, _, rfl, (by show 3 ≤ sizeLine; decide), fun td htd => ne_tup ((same_new htd) _ _ upd_same) upd_same (.cons (.int a) (.cons (.int b) (.cons (.int 3) .nil))) (by simp [PyData.canLay0, PyData.canLayAll0, po, pn]) (Nat.le_of_ble_eq_true rfl) ⟨_, rfl, iteF ?_⟩⟩⟩
      exact ⟨rfl, ((((sm.trans (same_new hta)).trans (same_new htb)).trans (same_new htc)).trans (same_new htd))⟩
    rintro σ' H' ⟨rfl, sm⟩
    refine ⟨fun σ' H' => σ' = [some (.int a), some (.int b), some (.str p), some (.ref x1), some (.ref x2), some (.ref x3), some (.ref x4), some (.ref x5), some (.ref x6)] ∧ Same H6 H', ?_, ?_⟩
    · refine ⟨_, rfl, x5, true, c5, d5, _, _, rfl, sm _ _ e5, sm _ _ f5, e.sh.own.is.toXGet, e.sh.own.no _ (by simp), rfl, _, rfl, x5, true, c5, d5, _, _, rfl, sm _ _ e5, sm _ _ f5, e.sh.own.is.toXGet, e.sh.own.no _ (by simp), rfl, (by show 2 ≤ sizeLine; decide), fun ta hta => ⟨_, rfl, _, rfl, (by show 2 ≤ sizeLine; decide), fun tb htb => ne_tup ((same_new htb) _ _ upd_same) upd_same (.cons (.int a) (.cons (.int b) .nil)) (by simp [PyData.canLay0, PyData.canLayAll0, po, pn]) (Nat.le_of_ble_eq_true rfl) ⟨_, rfl, iteF ?_⟩⟩⟩
      refine ⟨_, rfl, x6, true, c6, d6, _, _, rfl, ((sm.trans (same_new hta)).trans (same_new htb)) _ _ e6, ((sm.trans (same_new hta)).trans (same_new htb)) _ _ f6, e.un.own.is.toXGet, e.un.own.no _ (by simp), rfl, _, rfl, x6, true, c6, d6, _, _, rfl, ((sm.trans (same_new hta)).trans (same_new htb)) _ _ e6, ((sm.trans (same_new hta)).trans (same_new htb)) _ _ f6, e.un.own.is.toXGet, e.un.own.no _ (by simp), rfl, (by show 2 ≤ sizeLine; decide), fun tc htc => ⟨_, rfl, _, rfl, _, _, rfl, rfl, by omega, (by show 2 ≤ sizeLine; decide), fun td htd => ne_tup ((same_new htd) _ _ upd_same) upd_same (.cons (.int a) (.cons (.str _) .nil)) (by simp [PyData.canLay0, PyData.canLayAll0, po, pn]) (Nat.le_of_ble_eq_true rfl) ⟨_, rfl, iteF ?_⟩⟩⟩
      exact ⟨rfl, ((((sm.trans (same_new hta)).trans (same_new htb)).trans (same_new htc)).trans (same_new htd))⟩
    rintro σ' H' ⟨rfl, sm⟩
    refine ⟨fun σ' H' => σ' = [some (.int a), some (.int b), some (.str p), some (.ref x1), some (.ref x2), some (.ref x3), some (.ref x4), some (.ref x5), some (.ref x6)] ∧ Same H6 H', ?_, ?_⟩
    · refine ⟨_, rfl, _, rfl, _, rfl, _, rfl, _, rfl, _, _, rfl, rfl, (by show 3 ≤ sizeLine; decide), fun ta hta => ⟨x1, d1, ta, c1, _, _, true, _, _, rfl, e.nr.st, rfl, (same_new hta) _ _ (sm _ _ e1), (same_new hta) _ _ (sm _ _ f1), .cons fa (.cons fb (.cons (fl _) .nil)), by decide +kernel, upd_same, (by show 3 ≤ 10; decide), fun Jta sta => ?_⟩⟩
      refine ⟨true, rfl, iteF ?_⟩
      have sm2 := (sm.trans (same_new hta)).trans sta
      refine ⟨_, rfl, _, rfl, _, rfl, _, rfl, (by show 3 ≤ sizeLine; decide), fun tb htb => ⟨x2, d2, tb, c2, _, _, true, _, _, rfl, e.ol.st, rfl, (same_new htb) _ _ (sm2 _ _ e2), (same_new htb) _ _ (sm2 _ _ f2), .cons fp (.cons fa (.cons fb .nil)), by decide +kernel, upd_same, (by show 3 ≤ 10; decide), fun Jtb stb => ?_⟩⟩
      exact ⟨true, rfl, iteF ⟨rfl, (sm2.trans (same_new htb)).trans stb⟩⟩
    rintro σ' H' ⟨rfl, sm⟩
    refine ⟨fun σ' H' => σ' = [some (.int a), some (.int b), some (.str p), some (.ref x1), some (.ref x2), some (.ref x3), some (.ref x4), some (.ref x5), some (.ref x6)] ∧ Same H6 H', ?_, ?_⟩
    · refine ⟨_, rfl, _, rfl, _, rfl, (by show 2 ≤ sizeLine; decide), fun ta hta => ⟨x3, d3, ta, c3, _, _, true, _, _, rfl, e.go.st, rfl, (same_new hta) _ _ (sm _ _ e3), (same_new hta) _ _ (sm _ _ f3), .cons fa (.cons fb .nil), by decide +kernel, upd_same, (by show 2 ≤ 10; decide), fun Jta sta => ?_⟩⟩
      refine ⟨true, rfl, iteF ?_⟩
      have sm2 := (sm.trans (same_new hta)).trans sta
      refine ⟨_, rfl, _, rfl, _, rfl, (by show 3 ≤ sizeLine; decide), fun tb htb => ⟨x4, d4, tb, c4, _, _, true, _, _, rfl, e.dr.st, rfl, (same_new htb) _ _ (sm2 _ _ e4), (same_new htb) _ _ (sm2 _ _ f4), .cons fa (.cons fb (.cons f3' .nil)), by decide +kernel, upd_same, (by show 3 ≤ 10; decide), fun Jtb stb => ?_⟩⟩
      exact ⟨true, rfl, iteF ⟨rfl, (sm2.trans (same_new htb)).trans stb⟩⟩
    rintro σ' H' ⟨rfl, sm⟩
    refine ⟨_, rfl, _, rfl, _, rfl, (by show 2 ≤ sizeLine; decide), fun ta hta => ⟨x5, d5, ta, c5, _, _, true, _, _, rfl, e.sh.st, rfl, (same_new hta) _ _ (sm _ _ e5), (same_new hta) _ _ (sm _ _ f5), .cons fa (.cons fb .nil), by decide +kernel, upd_same, (by show 2 ≤ 10; decide), fun Jta sta => ?_⟩⟩
    refine ⟨_, rfl, iteT ?_⟩
    have sm2 := (sm.trans (same_new hta)).trans sta
    refine ⟨_, rfl, _, rfl, _, rfl, _, _, rfl, rfl, by omega, (by show 2 ≤ sizeLine; decide), fun tb htb => ⟨x6, d6, tb, c6, _, _, true, _, _, rfl, e.un.st, rfl, (same_new htb) _ _ (sm2 _ _ e6), (same_new htb) _ _ (sm2 _ _ f6), .cons fa (.cons fq .nil), by decide +kernel, upd_same, (by show 2 ≤ 10; decide), fun Jtb stb => ?_⟩⟩
    exact k _ (t0.trans ((sm2.trans (same_new htb)).trans stb))
end
end K21


namespace K21
open PySem L2 SS
section
variable {P : Program} {w : World} {K : PySem.W.Frag} {mg : Str → Option Value} {base : Heap}
def spTex : Sp := fun vs H Q _ => ∃ (a : Int) (p : Str), vs = [.int a, .str p] ∧ a.natAbs < 2 ^ 60 ∧ p.length ≤ 200 ∧ PyData.strOk p = true ∧ ∀ H', Same H H' → Q (.bl true) H'
abbrev nmTex : List Str := ["_law_a", "_law_path", "_law_told", "_law_word", "_law_fields_here", "_law_paths"]
theorem scTex : FnScope nmTex ["_law_a", "_law_path"] (defScope sTex) := ⟨rfl, rfl, rfl, by decide +kernel, rfl, by decide +kernel, by decide +kernel⟩
structure ErrB (P : Program) (w : World) (K : PySem.W.Frag) (mg : Str → Option Value) (base : Heap) (cbs cbg cbm cbo ccr cnp cbp ctk cne cus cnf cnd cgn cst cup cnh cbl cct : Addr) : Prop where
  bs : XF P w K mg base "BadSize" cbs ["size"]
  bg : XF P w K mg base "BadPage" cbg ["page"]
  bm : XF P w K mg base "BadMany" cbm ["many"]
  bo : XF P w K mg base "BadOwner" cbo ["whose"]
  cr : XF P w K mg base "Crowded" ccr ["most"]
  np : XF P w K mg base "NoPledge" cnp ["ticket"]
  bp : XF P w K mg base "BadPath" cbp ["path"]
  tk : XF P w K mg base "Taken" ctk ["path"]
  ne : XF P w K mg base "NotEmpty" cne ["path"]
  us : XF P w K mg base "Unsettled" cus ["path"]
  nf : XF P w K mg base "NoFile" cnf ["path"]
  nd : XF P w K mg base "NoFolder" cnd ["path"]
  gn : XF0 P w K mg base "Gone" cgn
  st : XF0 P w K mg base "Stale" cst
  up : XF0 P w K mg base "Unplayed" cup
  nh : XF0 P w K mg base "NotHere" cnh
  bl : XF0 P w K mg base "BadLine" cbl
  ct : XF0 P w K mg base "Cut" cct
set_option maxHeartbeats 8000000 in
theorem ok_tex {f cbs cbg cbm cbo ccr cnp cbp ctk cne cus cnf cnd cgn cst cup cnh cbl cct : Addr} {fd : FuncData} (F : Fun K "_law_texts" "_law_texts" sTex f fd) (T : Txt K mg) (e : ErrB P w K mg base cbs cbg cbm cbo ccr cnp cbp ctk cne cus cnf cnd cgn cst cup cnh cbl cct) : FnOk P w K mg base CX0 5 f fd ["_law_a", "_law_path"] spTex := by
  refine F.ok scTex (fun vs H Q E h => ?_) (fun cdv A outer s H vs Q E hr h => ?_)
  · obtain ⟨a, p, rfl, _⟩ := h; rfl
  · obtain ⟨a, p, rfl, ha, hp, po, k⟩ := h
    have hr2 : Room 2 _ := hr.mono (by decide)
    have hr3 : Room 3 _ := hr.mono (by decide)
    refine ⟨_, pss_cut (ps_set (i := 2) scTex.nd rfl (Or.inl rfl) (pe_lst (pa_cons (pe_callTy (call_strE hr3.h) (by rfl) T.str (by decide +kernel) (pa_cons (pe_xm e.bs hr2 (by rfl) (by decide) (pa_cons (pv 0) pa_nil)) pa_nil)) (pa_cons (pe_callTy (call_strE hr3.h) (by rfl) T.str (by decide +kernel) (pa_cons (pe_xm e.bg hr2 (by rfl) (by decide) (pa_cons (pv 0) pa_nil)) pa_nil)) (pa_cons (pe_callTy (call_strE hr3.h) (by rfl) T.str (by decide +kernel) (pa_cons (pe_xm e.bm hr2 (by rfl) (by decide) (pa_cons (pv 0) pa_nil)) pa_nil)) (pa_cons (pe_callTy (call_strE hr3.h) (by rfl) T.str (by decide +kernel) (pa_cons (pe_xm e.bo hr2 (by rfl) (by decide) (pa_cons (pv 0) pa_nil)) pa_nil)) (pa_cons (pe_callTy (call_strE hr3.h) (by rfl) T.str (by decide +kernel) (pa_cons (pe_xm e.cr hr2 (by rfl) (by decide) (pa_cons (pv 0) pa_nil)) pa_nil)) (pa_cons (pe_callTy (call_strE hr3.h) (by rfl) T.str (by decide +kernel) (pa_cons (pe_xm e.np hr2 (by rfl) (by decide) (pa_cons (pv 0) pa_nil)) pa_nil)) pa_nil))))))))
      (pss_cut (ps_if (pt_cmpR (op_neD hr.units) (pv 2) (pe_lc (own := [("_law_word", 3)]) (g := gName 3) (by rfl) scTex.nd (pi_list (pe_lst (pa_cons pe_str (pa_cons pe_str (pa_cons pe_str (pa_cons pe_str (pa_cons pe_str (pa_cons pe_str pa_nil)))))))) (blkOk_by (own := [("_law_word", 3)]) (N := nmTex) (sc := defScope sTex) (by decide +kernel)) (fun _ _ _ _ _ => pg_name (i := 3) scTex.nd rfl (Or.inl rfl)) (fun _ _ _ _ _ => pts_nil) (fun _ _ _ _ _ => pe_op op_add_str (pe_op op_add_str (pv 3) pe_str) (pe_callTy call_str_int (by rfl) T.str (by decide +kernel) (pa_cons (pv 0) pa_nil)))) (nomark _)) (pss_one (ps_ret pe_bl)) pss_nil)
      (pss_cut (ps_set (i := 2) scTex.nd rfl (Or.inl rfl) (pe_lst (pa_cons (pe_callTy (call_strE hr3.h) (by rfl) T.str (by decide +kernel) (pa_cons (pe_xm e.bp hr2 (by rfl) (by decide) (pa_cons (pv 1) pa_nil)) pa_nil)) (pa_cons (pe_callTy (call_strE hr3.h) (by rfl) T.str (by decide +kernel) (pa_cons (pe_xm e.tk hr2 (by rfl) (by decide) (pa_cons (pv 1) pa_nil)) pa_nil)) (pa_cons (pe_callTy (call_strE hr3.h) (by rfl) T.str (by decide +kernel) (pa_cons (pe_xm e.ne hr2 (by rfl) (by decide) (pa_cons (pv 1) pa_nil)) pa_nil)) (pa_cons (pe_callTy (call_strE hr3.h) (by rfl) T.str (by decide +kernel) (pa_cons (pe_xm e.us hr2 (by rfl) (by decide) (pa_cons (pv 1) pa_nil)) pa_nil)) (pa_cons (pe_callTy (call_strE hr3.h) (by rfl) T.str (by decide +kernel) (pa_cons (pe_xm e.nf hr2 (by rfl) (by decide) (pa_cons (pv 1) pa_nil)) pa_nil)) pa_nil)))))))
      (pss_cut (ps_if (pt_cmpR (op_neD hr.units) (pv 2) (pe_lc (own := [("_law_word", 3)]) (g := gName 3) (by rfl) scTex.nd (pi_list (pe_lst (pa_cons pe_str (pa_cons pe_str (pa_cons pe_str (pa_cons pe_str (pa_cons pe_str pa_nil))))))) (blkOk_by (own := [("_law_word", 3)]) (N := nmTex) (sc := defScope sTex) (by decide +kernel)) (fun _ _ _ _ _ => pg_name (i := 3) scTex.nd rfl (Or.inl rfl)) (fun _ _ _ _ _ => pts_nil) (fun _ _ _ _ _ => pe_op op_add_str (pe_op op_add_str (pv 3) pe_str) (pv 1))) (nomark _)) (pss_one (ps_ret pe_bl)) pss_nil)
      (pss_cut (ps_set (i := 2) scTex.nd rfl (Or.inl rfl) (pe_lst (pa_cons (pe_callTy (call_strE hr3.h) (by rfl) T.str (by decide +kernel) (pa_cons (pe_xm0 e.gn (by rfl)) pa_nil)) (pa_cons (pe_callTy (call_strE hr3.h) (by rfl) T.str (by decide +kernel) (pa_cons (pe_xm0 e.st (by rfl)) pa_nil)) (pa_cons (pe_callTy (call_strE hr3.h) (by rfl) T.str (by decide +kernel) (pa_cons (pe_xm0 e.up (by rfl)) pa_nil)) (pa_cons (pe_callTy (call_strE hr3.h) (by rfl) T.str (by decide +kernel) (pa_cons (pe_xm0 e.nh (by rfl)) pa_nil)) (pa_cons (pe_callTy (call_strE hr3.h) (by rfl) T.str (by decide +kernel) (pa_cons (pe_xm0 e.bl (by rfl)) pa_nil)) (pa_cons (pe_callTy (call_strE hr3.h) (by rfl) T.str (by decide +kernel) (pa_cons (pe_xm0 e.ct (by rfl)) pa_nil)) pa_nil))))))))
      (pss_cut (ps_if (PW.pt (pw_or (pt_cmpR (op_neD hr.units) (pv 2) (pe_lst (pa_cons pe_str (pa_cons pe_str (pa_cons pe_str (pa_cons pe_str (pa_cons pe_str (pa_cons pe_str pa_nil))))))) (nomark _)) (pw_or1 (pt_cmpR op_ne (pe_callTy (call_strE hr3.h) (by rfl) T.str (by decide +kernel) (pa_cons (pe_xm e.nd hr2 (by rfl) (by decide) (pa_cons (pv 1) pa_nil)) pa_nil)) (pe_op op_add_str pe_str (pv 1)) (nomark _))))) (pss_one (ps_ret pe_bl)) pss_nil)
      (pss_cut (ps_set (i := 4) scTex.nd rfl (Or.inl rfl) (pe_lst (pa_cons (pe_xfld (pe_xm e.bs hr2 (by rfl) (by decide) (pa_cons (pv 0) pa_nil)) rfl) (pa_cons (pe_xfld (pe_xm e.bg hr2 (by rfl) (by decide) (pa_cons (pv 0) pa_nil)) rfl) (pa_cons (pe_xfld (pe_xm e.bm hr2 (by rfl) (by decide) (pa_cons (pv 0) pa_nil)) rfl) (pa_cons (pe_xfld (pe_xm e.bo hr2 (by rfl) (by decide) (pa_cons (pv 0) pa_nil)) rfl) (pa_cons (pe_xfld (pe_xm e.cr hr2 (by rfl) (by decide) (pa_cons (pv 0) pa_nil)) rfl) pa_nil)))))))
      (pss_cut (ps_set (i := 5) scTex.nd rfl (Or.inl rfl) (pe_lst (pa_cons (pe_xfld (pe_xm e.bp hr2 (by rfl) (by decide) (pa_cons (pv 1) pa_nil)) rfl) (pa_cons (pe_xfld (pe_xm e.tk hr2 (by rfl) (by decide) (pa_cons (pv 1) pa_nil)) rfl) (pa_cons (pe_xfld (pe_xm e.ne hr2 (by rfl) (by decide) (pa_cons (pv 1) pa_nil)) rfl) (pa_cons (pe_xfld (pe_xm e.us hr2 (by rfl) (by decide) (pa_cons (pv 1) pa_nil)) rfl) (pa_cons (pe_xfld (pe_xm e.nf hr2 (by rfl) (by decide) (pa_cons (pv 1) pa_nil)) rfl) pa_nil)))))))
      (pss_one (ps_ret (pe_and (pe_cmpR (op_eqD hr.units) (pv 4) (pe_op op_rep (pe_lst (pa_cons (pv 0) pa_nil)) pe_int) (nomark _)) (pe_and (pe_cmpR (op_eqD hr.units) (pe_op op_cat (pv 5) (pe_lst (pa_cons (pe_xfld (pe_xm e.nd hr2 (by rfl) (by decide) (pa_cons (pv 1) pa_nil)) rfl) pa_nil))) (pe_op op_rep (pe_lst (pa_cons (pv 1) pa_nil)) pe_int) (nomark _)) (pe_one (pe_cmpR op_eq (pe_xfld (pe_xm e.np hr2 (by rfl) (by decide) (pa_cons (pv 0) pa_nil)) rfl) (pv 0) (nomark _)))))))))))))), ?_⟩
    have lga : a.natAbs.log2 < 1920 := log_small (by omega)
    have fa : fmt1 (.int a) _ := .inl ⟨a, rfl, lga, rfl⟩
    have fp : fmt1 (.str p) p := .inr (.inl ⟨rfl, by omega⟩)
    have ga := PyProof.Rows.int_text_len_1921 lga
    have oa : PyData.strOk (((toString a : String) : Str)) = true := strOk_ofs _
    have l1 : (" " : Str).length = 1 := by decide +kernel
    have qz : sizeLine = 16777216 := by decide
    have kA : ∀ w ∈ (["BadSize", "BadPage", "BadMany", "BadOwner", "Crowded", "NoPledge"] : List Str), PyData.strOk w = true ∧ w.length ≤ 20 := by decide +kernel
    have kB : ∀ w ∈ (["BadPath", "Taken", "NotEmpty", "Unsettled", "NoFile"] : List Str), PyData.strOk w = true ∧ w.length ≤ 20 := by decide +kernel
    have kP : ∀ w ∈ (["Gone", "Stale", "Unplayed", "NotHere", "BadLine", "Cut"] : List Str), PyData.strOk w = true := by decide +kernel
    generalize hza : (((toString a : String) : Str)) = za at fa ga oa
    have okA : ∀ z ∈ ((["BadSize", "BadPage", "BadMany", "BadOwner", "Crowded", "NoPledge"] : List Str).map fun w => w ++ (" " : Str) ++ za), PyData.strOk z = true := fun z hz => by
      obtain ⟨w, hw, rfl⟩ := List.mem_map.mp hz
      exact strOk_app (strOk_app (kA w hw).1 (strOk_ofs _)) oa
    have okB : ∀ z ∈ ((["BadPath", "Taken", "NotEmpty", "Unsettled", "NoFile"] : List Str).map fun w => w ++ (" " : Str) ++ p), PyData.strOk z = true := fun z hz => by
      obtain ⟨w, hw, rfl⟩ := List.mem_map.mp hz
      exact strOk_app (strOk_app (kB w hw).1 (strOk_ofs _)) po
    refine ⟨fun σ' H' => ∃ q, σ' = [some (.int a), some (.str p), some (.ref q), none, none, none] ∧ Same H H' ∧ H' q = some (.lst (((["BadSize", "BadPage", "BadMany", "BadOwner", "Crowded", "NoPledge"] : List Str).map fun w => w ++ (" " : Str) ++ za).map V.str)), ?_, ?_⟩
    · refine ⟨_, rfl, rfl, fun x1 d1 H1 s1 _ _ e1 f1 => .inl ⟨x1, d1, cbs, _, _, true, _, _, rfl, e.bs.st, rfl, e1, f1, .cons fa .nil, ?_⟩⟩
      refine ⟨_, rfl, rfl, fun x2 d2 H2 s2 _ _ e2 f2 => .inl ⟨x2, d2, cbg, _, _, true, _, _, rfl, e.bg.st, rfl, e2, f2, .cons fa .nil, ?_⟩⟩
      refine ⟨_, rfl, rfl, fun x3 d3 H3 s3 _ _ e3 f3 => .inl ⟨x3, d3, cbm, _, _, true, _, _, rfl, e.bm.st, rfl, e3, f3, .cons fa .nil, ?_⟩⟩
      refine ⟨_, rfl, rfl, fun x4 d4 H4 s4 _ _ e4 f4 => .inl ⟨x4, d4, cbo, _, _, true, _, _, rfl, e.bo.st, rfl, e4, f4, .cons fa .nil, ?_⟩⟩
      refine ⟨_, rfl, rfl, fun x5 d5 H5 s5 _ _ e5 f5 => .inl ⟨x5, d5, ccr, _, _, true, _, _, rfl, e.cr.st, rfl, e5, f5, .cons fa .nil, ?_⟩⟩
      refine ⟨_, rfl, rfl, fun x6 d6 H6 s6 _ _ e6 f6 => .inl ⟨x6, d6, cnp, _, _, true, _, _, rfl, e.np.st, rfl, e6, f6, .cons fa .nil, ?_⟩⟩
      exact ⟨(by show 6 ≤ sizeLine; decide), fun q hq => ⟨q, rfl, (((((s1.trans s2).trans s3).trans s4).trans s5).trans s6).trans (same_new hq), upd_same⟩⟩
    rintro σ' H' ⟨q, rfl, sm, eq⟩
    refine ⟨fun σ' H' => σ' = [some (.int a), some (.str p), some (.ref q), none, none, none] ∧ Same H H', ?_, ?_⟩
    · refine ⟨_, rfl, (by show 6 ≤ sizeLine; decide), fun l hl => ⟨l, rfl, ⟨_, SqL.of upd_same⟩, fun D hD => ?_⟩⟩
      refine lc_list (K := K) (a := l) (xs := (["BadSize", "BadPage", "BadMany", "BadOwner", "Crowded", "NoPledge"] : List Str).map V.str) (fun j H3 => H3 = upd (upd H' l (.lst ((["BadSize", "BadPage", "BadMany", "BadOwner", "Crowded", "NoPledge"] : List Str).map V.str))) D (.lst ((((["BadSize", "BadPage", "BadMany", "BadOwner", "Crowded", "NoPledge"] : List Str).map fun w => w ++ (" " : Str) ++ za).take j).map V.str))) rfl ?_ ?_ ?_
      · rintro j H3 _ rfl
        exact SqL.of ((same_new hD) _ _ upd_same)
      · rintro j x H3 hx rfl
        rw [List.getElem?_map] at hx
        obtain ⟨w, hw, rfl⟩ := Option.map_eq_some_iff.mp hx
        have hk := kA w (List.mem_of_getElem? hw)
        have hj : j < 6 := (List.getElem?_eq_some_iff.mp hw).1
        refine ⟨rfl, ?_⟩
        dsimp only [tYes]
        rw [if_pos rfl]
        refine ⟨_, rfl, _, _, rfl, rfl, by omega, _, rfl, a, rfl, lga, _, _, rfl, rfl, by rw [strLen_append, hza]; omega, _, upd_same, small1000 (by rw [List.length_map, List.length_take]; omega), ?_⟩
        rw [upd_upd, List.take_succ, List.getElem?_map, hw, List.map_append, hza]
        rfl
      · rintro H3 rfl
        exact ne_strs (zs := ((["BadSize", "BadPage", "BadMany", "BadOwner", "Crowded", "NoPledge"] : List Str).map fun w => w ++ (" " : Str) ++ za)) ((same_new hD) _ _ ((same_new hl) _ _ eq)) upd_same okA ⟨_, rfl, iteF ⟨rfl, (sm.trans (same_new hl)).trans (same_new hD)⟩⟩
    rintro σ' H' ⟨rfl, sm⟩
    clear eq
    refine ⟨fun σ' H' => ∃ q, σ' = [some (.int a), some (.str p), some (.ref q), none, none, none] ∧ Same H H' ∧ H' q = some (.lst (((["BadPath", "Taken", "NotEmpty", "Unsettled", "NoFile"] : List Str).map fun w => w ++ (" " : Str) ++ p).map V.str)), ?_, ?_⟩
    · refine ⟨_, rfl, rfl, fun x1 d1 H1 s1 _ _ e1 f1 => .inl ⟨x1, d1, cbp, _, _, true, _, _, rfl, e.bp.st, rfl, e1, f1, .cons fp .nil, ?_⟩⟩
      refine ⟨_, rfl, rfl, fun x2 d2 H2 s2 _ _ e2 f2 => .inl ⟨x2, d2, ctk, _, _, true, _, _, rfl, e.tk.st, rfl, e2, f2, .cons fp .nil, ?_⟩⟩
      refine ⟨_, rfl, rfl, fun x3 d3 H3 s3 _ _ e3 f3 => .inl ⟨x3, d3, cne, _, _, true, _, _, rfl, e.ne.st, rfl, e3, f3, .cons fp .nil, ?_⟩⟩
      refine ⟨_, rfl, rfl, fun x4 d4 H4 s4 _ _ e4 f4 => .inl ⟨x4, d4, cus, _, _, true, _, _, rfl, e.us.st, rfl, e4, f4, .cons fp .nil, ?_⟩⟩
      refine ⟨_, rfl, rfl, fun x5 d5 H5 s5 _ _ e5 f5 => .inl ⟨x5, d5, cnf, _, _, true, _, _, rfl, e.nf.st, rfl, e5, f5, .cons fp .nil, ?_⟩⟩
      exact ⟨(by show 5 ≤ sizeLine; decide), fun q hq => ⟨q, rfl, (((((sm.trans s1).trans s2).trans s3).trans s4).trans s5).trans (same_new hq), upd_same⟩⟩
    rintro σ' H' ⟨q, rfl, sm, eq⟩
    refine ⟨fun σ' H' => σ' = [some (.int a), some (.str p), some (.ref q), none, none, none] ∧ Same H H', ?_, ?_⟩
    · refine ⟨_, rfl, (by show 5 ≤ sizeLine; decide), fun l hl => ⟨l, rfl, ⟨_, SqL.of upd_same⟩, fun D hD => ?_⟩⟩
      refine lc_list (K := K) (a := l) (xs := (["BadPath", "Taken", "NotEmpty", "Unsettled", "NoFile"] : List Str).map V.str) (fun j H3 => H3 = upd (upd H' l (.lst ((["BadPath", "Taken", "NotEmpty", "Unsettled", "NoFile"] : List Str).map V.str))) D (.lst ((((["BadPath", "Taken", "NotEmpty", "Unsettled", "NoFile"] : List Str).map fun w => w ++ (" " : Str) ++ p).take j).map V.str))) rfl ?_ ?_ ?_
      · rintro j H3 _ rfl
        exact SqL.of ((same_new hD) _ _ upd_same)
      · rintro j x H3 hx rfl
        rw [List.getElem?_map] at hx
        obtain ⟨w, hw, rfl⟩ := Option.map_eq_some_iff.mp hx
        have hk := kB w (List.mem_of_getElem? hw)
        have hj : j < 5 := (List.getElem?_eq_some_iff.mp hw).1
        refine ⟨rfl, ?_⟩
        dsimp only [tYes]
        rw [if_pos rfl]
        refine ⟨_, rfl, _, _, rfl, rfl, by omega, _, rfl, _, _, rfl, rfl, by rw [strLen_append]; omega, _, upd_same, small1000 (by rw [List.length_map, List.length_take]; omega), ?_⟩
        rw [upd_upd, List.take_succ, List.getElem?_map, hw, List.map_append]
        rfl
      · rintro H3 rfl
        exact ne_strs (zs := ((["BadPath", "Taken", "NotEmpty", "Unsettled", "NoFile"] : List Str).map fun w => w ++ (" " : Str) ++ p)) ((same_new hD) _ _ ((same_new hl) _ _ eq)) upd_same okB ⟨_, rfl, iteF ⟨rfl, (sm.trans (same_new hl)).trans (same_new hD)⟩⟩
    rintro σ' H' ⟨rfl, sm⟩
    clear eq
    refine ⟨fun σ' H' => ∃ q, σ' = [some (.int a), some (.str p), some (.ref q), none, none, none] ∧ Same H H' ∧ H' q = some (.lst ((["Gone", "Stale", "Unplayed", "NotHere", "BadLine", "Cut"] : List Str).map V.str)), ?_, ?_⟩
    · refine fun x1 h1 => .inr ⟨x1, cgn, _, true, rfl, e.gn.st, upd_same, ?_⟩
      refine fun x2 h2 => .inr ⟨x2, cst, _, true, rfl, e.st.st, upd_same, ?_⟩
      refine fun x3 h3 => .inr ⟨x3, cup, _, true, rfl, e.up.st, upd_same, ?_⟩
      refine fun x4 h4 => .inr ⟨x4, cnh, _, true, rfl, e.nh.st, upd_same, ?_⟩
      refine fun x5 h5 => .inr ⟨x5, cbl, _, true, rfl, e.bl.st, upd_same, ?_⟩
      refine fun x6 h6 => .inr ⟨x6, cct, _, true, rfl, e.ct.st, upd_same, ?_⟩
      exact ⟨(by show 6 ≤ sizeLine; decide), fun q hq => ⟨q, rfl, ((((((sm.trans (same_new h1)).trans (same_new h2)).trans (same_new h3)).trans (same_new h4)).trans (same_new h5)).trans (same_new h6)).trans (same_new hq), upd_same⟩⟩
    rintro σ' H' ⟨q, rfl, sm, eq⟩
    refine ⟨fun σ' H' => σ' = [some (.int a), some (.str p), some (.ref q), none, none, none] ∧ Same H H', ?_, ?_⟩
    · refine ⟨_, rfl, (by show 6 ≤ sizeLine; decide), fun l hl => ne_strs (zs := (["Gone", "Stale", "Unplayed", "NotHere", "BadLine", "Cut"] : List Str)) ((same_new hl) _ _ eq) upd_same kP ⟨_, rfl, iteF ?_⟩⟩
      refine ⟨_, rfl, rfl, fun x d H1 s1 _ _ e1 f1 => .inl ⟨x, d, cnd, _, _, true, _, _, rfl, e.nd.st, rfl, e1, f1, .cons fp .nil, ?_⟩⟩
      have l9 : ("NoFolder " : Str).length = 9 := by decide +kernel
      have e9 : ("NoFolder " : Str) = ("NoFolder" : Str) ++ (" " : Str) := by decide +kernel
      exact ⟨_, rfl, _, _, rfl, rfl, by omega, rfl, _, rfl, iteNS (by rw [e9]; rfl) ⟨rfl, (sm.trans (same_new hl)).trans s1⟩⟩
    rintro σ' H' ⟨rfl, sm⟩
    clear eq
    refine ⟨fun σ' H' => ∃ q4, σ' = [some (.int a), some (.str p), some (.ref q), none, some (.ref q4), none] ∧ Same H H' ∧ H' q4 = some (.lst [.int a, .int a, .int a, .int a, .int a]), ?_, ?_⟩
    · refine ⟨_, rfl, rfl, fun x1 d1 H1 s1 _ _ e1 f1 => ⟨x1, true, cbs, d1, _, _, rfl, e1, f1, e.bs.own.is.toXGet, e.bs.own.no _ (by simp), rfl, ?_⟩⟩
      refine ⟨_, rfl, rfl, fun x2 d2 H2 s2 _ _ e2 f2 => ⟨x2, true, cbg, d2, _, _, rfl, e2, f2, e.bg.own.is.toXGet, e.bg.own.no _ (by simp), rfl, ?_⟩⟩
      refine ⟨_, rfl, rfl, fun x3 d3 H3 s3 _ _ e3 f3 => ⟨x3, true, cbm, d3, _, _, rfl, e3, f3, e.bm.own.is.toXGet, e.bm.own.no _ (by simp), rfl, ?_⟩⟩
      refine ⟨_, rfl, rfl, fun x4 d4 H4 s4 _ _ e4 f4 => ⟨x4, true, cbo, d4, _, _, rfl, e4, f4, e.bo.own.is.toXGet, e.bo.own.no _ (by simp), rfl, ?_⟩⟩
      refine ⟨_, rfl, rfl, fun x5 d5 H5 s5 _ _ e5 f5 => ⟨x5, true, ccr, d5, _, _, rfl, e5, f5, e.cr.own.is.toXGet, e.cr.own.no _ (by simp), rfl, ?_⟩⟩
      exact ⟨(by show 5 ≤ sizeLine; decide), fun q4 hq => ⟨q4, rfl, (((((sm.trans s1).trans s2).trans s3).trans s4).trans s5).trans (same_new hq), upd_same⟩⟩
    rintro σ' H' ⟨q4, rfl, sm, eq4⟩
    refine ⟨fun σ' H' => ∃ q5, σ' = [some (.int a), some (.str p), some (.ref q), none, some (.ref q4), some (.ref q5)] ∧ Same H H' ∧ H' q4 = some (.lst [.int a, .int a, .int a, .int a, .int a]) ∧ H' q5 = some (.lst [.str p, .str p, .str p, .str p, .str p]), ?_, ?_⟩
    · refine ⟨_, rfl, rfl, fun x1 d1 H1 s1 _ _ e1 f1 => ⟨x1, true, cbp, d1, _, _, rfl, e1, f1, e.bp.own.is.toXGet, e.bp.own.no _ (by simp), rfl, ?_⟩⟩
      refine ⟨_, rfl, rfl, fun x2 d2 H2 s2 _ _ e2 f2 => ⟨x2, true, ctk, d2, _, _, rfl, e2, f2, e.tk.own.is.toXGet, e.tk.own.no _ (by simp), rfl, ?_⟩⟩
      refine ⟨_, rfl, rfl, fun x3 d3 H3 s3 _ _ e3 f3 => ⟨x3, true, cne, d3, _, _, rfl, e3, f3, e.ne.own.is.toXGet, e.ne.own.no _ (by simp), rfl, ?_⟩⟩
      refine ⟨_, rfl, rfl, fun x4 d4 H4 s4 _ _ e4 f4 => ⟨x4, true, cus, d4, _, _, rfl, e4, f4, e.us.own.is.toXGet, e.us.own.no _ (by simp), rfl, ?_⟩⟩
      refine ⟨_, rfl, rfl, fun x5 d5 H5 s5 _ _ e5 f5 => ⟨x5, true, cnf, d5, _, _, rfl, e5, f5, e.nf.own.is.toXGet, e.nf.own.no _ (by simp), rfl, ?_⟩⟩
      exact ⟨(by show 5 ≤ sizeLine; decide), fun q5 hq => ⟨q5, rfl, (((((sm.trans s1).trans s2).trans s3).trans s4).trans s5).trans (same_new hq), (same_new hq) _ _ (s5 _ _ (s4 _ _ (s3 _ _ (s2 _ _ (s1 _ _ eq4))))), upd_same⟩⟩
    rintro σ' H' ⟨q5, rfl, sm, eq4, eq5⟩
    refine ⟨_, rfl, _, rfl, (by show 1 ≤ sizeLine; decide), fun l hl => ⟨l, 5, _, rfl, rfl, upd_same, by decide, by decide, (by show 1 * 5 ≤ sizeLine; decide), fun r hr => ?_⟩⟩
    refine eq_lst (xs := [.int a, .int a, .int a, .int a, .int a]) (ds := [.int a, .int a, .int a, .int a, .int a]) ((same_new hr) _ _ ((same_new hl) _ _ eq4)) upd_same (.cons (.int a) (.cons (.int a) (.cons (.int a) (.cons (.int a) (.cons (.int a) .nil))))) rfl (Nat.le_of_ble_eq_true rfl) ⟨_, rfl, iteT ?_⟩
    refine ⟨_, rfl, _, rfl, rfl, fun x d H1 s1 _ _ e1 f1 => ⟨x, true, cnd, d, _, _, rfl, e1, f1, e.nd.own.is.toXGet, e.nd.own.no _ (by simp), rfl, (by show 1 ≤ sizeLine; decide), fun l2 hl2 => ⟨q5, l2, _, _, rfl, rfl, (same_new hl2) _ _ (s1 _ _ ((same_new hr) _ _ ((same_new hl) _ _ eq5))), upd_same, (by show 5 + 1 ≤ sizeLine; decide), fun r2 hr2 => ?_⟩⟩⟩
    refine ⟨_, rfl, (by show 1 ≤ sizeLine; decide), fun l3 hl3 => ⟨l3, 6, _, rfl, rfl, upd_same, by decide, by decide, (by show 1 * 6 ≤ sizeLine; decide), fun r3 hr3 => ?_⟩⟩
    refine eq_strs (zs := [p, p, p, p, p, p]) ((same_new hr3) _ _ ((same_new hl3) _ _ upd_same)) upd_same (fun z hz => by simp at hz; rw [hz]; exact po) ⟨_, rfl, iteT ?_⟩
    refine ⟨_, rfl, rfl, fun y d' H2 s2 _ _ e2 f2 => ⟨y, true, cnp, d', _, _, rfl, e2, f2, e.np.own.is.toXGet, e.np.own.no _ (by simp), rfl, _, rfl, rfl, ?_⟩⟩
    rw [show decide (V.int a = V.int a) = true from decide_eq_true rfl]
    exact k _ (((((((sm.trans (same_new hl)).trans (same_new hr)).trans s1).trans (same_new hl2)).trans (same_new hr2)).trans (same_new hl3)).trans (same_new hr3) |>.trans s2)
end
end K21


namespace K21
open PySem L2 SS
section
variable {P : Program} {w : World} {K : PySem.W.Frag} {mg : Str → Option Value} {base : Heap}
def spTak : Sp := fun vs H Q _ => ∃ (kd a : Int) (p : Str), vs = [.int kd, .int a, .str p] ∧ 0 ≤ kd ∧ kd < 5 ∧ ∀ H', Same H H' → Q (.bl true) H'
abbrev nmTak : List Str := ["_law_kind", "_law_a", "_law_path", "_law_e"]
theorem scTak : FnScope nmTak ["_law_kind", "_law_a", "_law_path"] (defScope sTak) := ⟨rfl, rfl, rfl, by decide +kernel, rfl, by decide +kernel, by decide +kernel⟩
structure ErrC (P : Program) (w : World) (K : PySem.W.Frag) (mg : Str → Option Value) (base : Heap) (cnr cnd cnp cst cnf CT CM : Addr) : Prop where
  nr : XF P w K mg base "NoRoom" cnr ["asked", "there", "helps"]
  nd : XF P w K mg base "NoFolder" cnd ["path"]
  np : XF P w K mg base "NoPledge" cnp ["ticket"]
  st : XF0 P w K mg base "Stale" cst
  nf : XF P w K mg base "NoFile" cnf ["path"]
  mgT : mg "StowError" = some (.ref CT)
  mgM : mg "Missing" = some (.ref CM)
  ecT : excC K CT = true
  ecM : excC K CM = true
  r_nr_CT : PySem.W.mroIn K cnr (.ref CT) = some true
  r_st_CT : PySem.W.mroIn K cst (.ref CT) = some true
  r_nd_CT : PySem.W.mroIn K cnd (.ref CT) = some false
  r_nd_CM : PySem.W.mroIn K cnd (.ref CM) = some true
  r_nf_CT : PySem.W.mroIn K cnf (.ref CT) = some false
  r_nf_CM : PySem.W.mroIn K cnf (.ref CM) = some true
  r_np_CT : PySem.W.mroIn K cnp (.ref CT) = some false
  r_np_CM : PySem.W.mroIn K cnp (.ref CM) = some false
  r_np_cnp : PySem.W.mroIn K cnp (.ref cnp) = some true
  k_nr_ValueError : PySem.W.kitOne K (.ref cnr) (.type "ValueError") = some true
  k_nr_LookupError : PySem.W.kitOne K (.ref cnr) (.type "LookupError") = some false
  k_st_ValueError : PySem.W.kitOne K (.ref cst) (.type "ValueError") = some true
  k_st_LookupError : PySem.W.kitOne K (.ref cst) (.type "LookupError") = some false
  k_nd_LookupError : PySem.W.kitOne K (.ref cnd) (.type "LookupError") = some true
  k_nd_KeyError : PySem.W.kitOne K (.ref cnd) (.type "KeyError") = some false
  k_nf_LookupError : PySem.W.kitOne K (.ref cnf) (.type "LookupError") = some true
  k_nf_KeyError : PySem.W.kitOne K (.ref cnf) (.type "KeyError") = some false
  k_np_KeyError : PySem.W.kitOne K (.ref cnp) (.type "KeyError") = some true
  k_np_CM : PySem.W.kitOne K (.ref cnp) (.ref CM) = some false
set_option maxHeartbeats 8000000 in
theorem ok_tak {f cnr cnd cnp cst cnf CT CM : Addr} {fd : FuncData} (F : Fun K "_law_taken" "_law_taken" sTak f fd) (T : Txt K mg) (e : ErrC P w K mg base cnr cnd cnp cst cnf CT CM) : FnOk P w K mg base CX0 5 f fd ["_law_kind", "_law_a", "_law_path"] spTak := by
  refine F.ok scTak (fun vs H Q E h => ?_) (fun cdv A outer s H vs Q E hr h => ?_)
  · obtain ⟨kd, a, p, rfl, _⟩ := h; rfl
  · obtain ⟨kd, a, p, rfl, h0, h5, k⟩ := h
    have hr2 : Room 2 _ := hr.mono (by decide)
    refine ⟨_, pss_one (ps_tryH (pxs_cons (pxt_if (pt_cmpR op_eq (pv 0) pe_int (nomark _)) (pxs_one (pxt_raise (pe_xm e.nr hr2 (by rfl) (by decide) (pa_cons (pv 1) (pa_cons (pv 1) (pa_cons pe_bl pa_nil)))) rfl)) pxs_nil)
      (pxs_cons (pxt_if (pt_cmpR op_eq (pv 0) pe_int (nomark _)) (pxs_one (pxt_raise (pe_xm e.nd hr2 (by rfl) (by decide) (pa_cons (pv 2) pa_nil)) rfl)) pxs_nil)
      (pxs_cons (pxt_if (pt_cmpR op_eq (pv 0) pe_int (nomark _)) (pxs_one (pxt_raise (pe_xm e.np hr2 (by rfl) (by decide) (pa_cons (pv 1) pa_nil)) rfl)) pxs_nil)
      (pxs_cons (pxt_if (pt_cmpR op_eq (pv 0) pe_int (nomark _)) (pxs_one (pxt_raise (pe_xm0 e.st (by rfl)) rfl)) pxs_nil)
      (pxs_one (pxt_raise (pe_xm e.nf hr2 (by rfl) (by decide) (pa_cons (pv 2) pa_nil)) rfl))))))
      (ph_as (i := 3) (fun x => pss_one (ps_ret (pe_and (pe_callB call_isiG (by rfl) T.isi (by decide +kernel) (pa_cons (pv 3) (pa_cons (pe_bltn (v := .ty "ValueError") (by rfl) T.ve (by decide +kernel) rfl) pa_nil))) (pe_and (pe_cmpR op_in_seq (pv 0) (pe_tup (pa_cons pe_int (pa_cons pe_int pa_nil))) (by rfl)) (pe_one (pe_not (pe_callB call_isiG (by rfl) T.isi (by decide +kernel) (pa_cons (pv 3) (pa_cons (pe_bltn (v := .ty "LookupError") (by rfl) T.le (by decide +kernel) rfl) pa_nil)))))))))
      (ph_as (i := 3) (fun x => pss_one (ps_ret (pe_and (pe_callB call_isiG (by rfl) T.isi (by decide +kernel) (pa_cons (pv 3) (pa_cons (pe_bltn (v := .ty "LookupError") (by rfl) T.le (by decide +kernel) rfl) pa_nil))) (pe_and (pe_cmpR op_in_seq (pv 0) (pe_tup (pa_cons pe_int (pa_cons pe_int pa_nil))) (by rfl)) (pe_one (pe_not (pe_callB call_isiG (by rfl) T.isi (by decide +kernel) (pa_cons (pv 3) (pa_cons (pe_bltn (v := .ty "KeyError") (by rfl) T.ke (by decide +kernel) rfl) pa_nil)))))))))
      (ph_as (i := 3) (fun x => pss_one (ps_ret (pe_and (pe_cmpR op_eq (pv 0) pe_int (nomark _)) (pe_and (pe_callB call_isiG (by rfl) T.isi (by decide +kernel) (pa_cons (pv 3) (pa_cons (pe_bltn (v := .ty "KeyError") (by rfl) T.ke (by decide +kernel) rfl) pa_nil))) (pe_one (pe_not (pe_callB call_isiG (by rfl) T.isi (by decide +kernel) (pa_cons (pv 3) (pa_cons (pe_glob (v := .ref CM) (by rfl) e.mgM rfl) pa_nil))))))))) ph_nil scTak.nd rfl rfl (by rfl) e.np.mgC e.np.ec) scTak.nd rfl rfl (by rfl) e.mgM e.ecM) scTak.nd rfl rfl (by rfl) e.mgT e.ecT) rfl rfl), ?_⟩
    have hk : kd = 0 ∨ kd = 1 ∨ kd = 2 ∨ kd = 3 ∨ kd = 4 := by omega
    rcases hk with rfl | rfl | rfl | rfl | rfl
    · refine ⟨_, rfl, rfl, _, rfl, iteT ?_⟩
      refine ⟨_, rfl, _, rfl, rfl, fun x d H1 s1 hx xd e1 f1 => ⟨x, cnr, some d, rfl, e1, e.nr.ec, x, cnr, rfl, upd_same, ?_⟩⟩
      have sm : Same H (upd H1 x (ExcO false cnr x (some d))) := s1.upd hx
      have xa : XAt (upd H1 x (ExcO false cnr x (some d))) x cnr := .some upd_same (by rw [upd_ne xd.symm]; exact f1)
      refine ⟨true, e.r_nr_CT, iteT ?_⟩
      refine ⟨_, rfl, x, cnr, .ty "ValueError", .type "ValueError", true, rfl, xa, e.nr.own.is, rfl, uniq_ty, e.k_nr_ValueError, _, rfl, iteT ?_⟩
      refine ⟨_, rfl, (by show 2 ≤ sizeLine; decide), fun t ht => ⟨t, _, rfl, .inr (SqT.of upd_same), rfl, rfl, _, rfl, iteT ?_⟩⟩
      refine ⟨_, rfl, x, cnr, .ty "LookupError", .type "LookupError", false, rfl, (xa.mono (same_new ht)), e.nr.own.is, rfl, uniq_ty, e.k_nr_LookupError, ?_⟩
      exact ⟨_, rfl, k _ (sm.trans (same_new ht))⟩
    · refine ⟨_, rfl, rfl, _, rfl, iteF ?_⟩
      refine ⟨_, rfl, rfl, _, rfl, iteT ?_⟩
      refine ⟨_, rfl, rfl, fun x d H1 s1 hx xd e1 f1 => ⟨x, cnd, some d, rfl, e1, e.nd.ec, x, cnd, rfl, upd_same, ?_⟩⟩
      have sm : Same H (upd H1 x (ExcO false cnd x (some d))) := s1.upd hx
      have xa : XAt (upd H1 x (ExcO false cnd x (some d))) x cnd := .some upd_same (by rw [upd_ne xd.symm]; exact f1)
      refine ⟨false, e.r_nd_CT, iteF ⟨true, e.r_nd_CM, iteT ?_⟩⟩
      refine ⟨_, rfl, x, cnd, .ty "LookupError", .type "LookupError", true, rfl, xa, e.nd.own.is, rfl, uniq_ty, e.k_nd_LookupError, _, rfl, iteT ?_⟩
      refine ⟨_, rfl, (by show 2 ≤ sizeLine; decide), fun t ht => ⟨t, _, rfl, .inr (SqT.of upd_same), rfl, rfl, _, rfl, iteT ?_⟩⟩
      refine ⟨_, rfl, x, cnd, .ty "KeyError", .type "KeyError", false, rfl, (xa.mono (same_new ht)), e.nd.own.is, rfl, uniq_ty, e.k_nd_KeyError, ?_⟩
      exact ⟨_, rfl, k _ (sm.trans (same_new ht))⟩
    · refine ⟨_, rfl, rfl, _, rfl, iteF ?_⟩
      refine ⟨_, rfl, rfl, _, rfl, iteF ?_⟩
      refine ⟨_, rfl, rfl, _, rfl, iteT ?_⟩
      refine ⟨_, rfl, rfl, fun x d H1 s1 hx xd e1 f1 => ⟨x, cnp, some d, rfl, e1, e.np.ec, x, cnp, rfl, upd_same, ?_⟩⟩
      have sm : Same H (upd H1 x (ExcO false cnp x (some d))) := s1.upd hx
      have xa : XAt (upd H1 x (ExcO false cnp x (some d))) x cnp := .some upd_same (by rw [upd_ne xd.symm]; exact f1)
      refine ⟨false, e.r_np_CT, iteF ⟨false, e.r_np_CM, iteF ⟨true, e.r_np_cnp, iteT ?_⟩⟩⟩
      refine ⟨_, rfl, rfl, _, rfl, iteT ?_⟩
      refine ⟨_, rfl, x, cnp, .ty "KeyError", .type "KeyError", true, rfl, xa, e.np.own.is, rfl, uniq_ty, e.k_np_KeyError, _, rfl, iteT ?_⟩
      refine ⟨_, rfl, x, cnp, .ref CM, .ref CM, false, rfl, xa, e.np.own.is, rfl, uniq_ref, e.k_np_CM, ?_⟩
      exact ⟨_, rfl, k _ sm⟩
    · refine ⟨_, rfl, rfl, _, rfl, iteF ?_⟩
      refine ⟨_, rfl, rfl, _, rfl, iteF ?_⟩
      refine ⟨_, rfl, rfl, _, rfl, iteF ?_⟩
      refine ⟨_, rfl, rfl, _, rfl, iteT ?_⟩
      refine fun x hx => ⟨x, cst, none, rfl, upd_same, e.st.mad.ec, x, cst, rfl, upd_same, ?_⟩
      have sm : Same H (upd (upd H x (ExcO true cst x none)) x (ExcO false cst x none)) := (same_new hx).upd hx
      have xa : XAt (upd (upd H x (ExcO true cst x none)) x (ExcO false cst x none)) x cst := .none upd_same
      refine ⟨true, e.r_st_CT, iteT ?_⟩
      refine ⟨_, rfl, x, cst, .ty "ValueError", .type "ValueError", true, rfl, xa, e.st.is, rfl, uniq_ty, e.k_st_ValueError, _, rfl, iteT ?_⟩
      refine ⟨_, rfl, (by show 2 ≤ sizeLine; decide), fun t ht => ⟨t, _, rfl, .inr (SqT.of upd_same), rfl, rfl, _, rfl, iteT ?_⟩⟩
      refine ⟨_, rfl, x, cst, .ty "LookupError", .type "LookupError", false, rfl, (xa.mono (same_new ht)), e.st.is, rfl, uniq_ty, e.k_st_LookupError, ?_⟩
      exact ⟨_, rfl, k _ (sm.trans (same_new ht))⟩
    · refine ⟨_, rfl, rfl, _, rfl, iteF ?_⟩
      refine ⟨_, rfl, rfl, _, rfl, iteF ?_⟩
      refine ⟨_, rfl, rfl, _, rfl, iteF ?_⟩
      refine ⟨_, rfl, rfl, _, rfl, iteF ?_⟩
      refine ⟨_, rfl, rfl, fun x d H1 s1 hx xd e1 f1 => ⟨x, cnf, some d, rfl, e1, e.nf.ec, x, cnf, rfl, upd_same, ?_⟩⟩
      have sm : Same H (upd H1 x (ExcO false cnf x (some d))) := s1.upd hx
      have xa : XAt (upd H1 x (ExcO false cnf x (some d))) x cnf := .some upd_same (by rw [upd_ne xd.symm]; exact f1)
      refine ⟨false, e.r_nf_CT, iteF ⟨true, e.r_nf_CM, iteT ?_⟩⟩
      refine ⟨_, rfl, x, cnf, .ty "LookupError", .type "LookupError", true, rfl, xa, e.nf.own.is, rfl, uniq_ty, e.k_nf_LookupError, _, rfl, iteT ?_⟩
      refine ⟨_, rfl, (by show 2 ≤ sizeLine; decide), fun t ht => ⟨t, _, rfl, .inr (SqT.of upd_same), rfl, rfl, _, rfl, iteT ?_⟩⟩
      refine ⟨_, rfl, x, cnf, .ty "KeyError", .type "KeyError", false, rfl, (xa.mono (same_new ht)), e.nf.own.is, rfl, uniq_ty, e.k_nf_KeyError, ?_⟩
      exact ⟨_, rfl, k _ (sm.trans (same_new ht))⟩
end
end K21


namespace K21
open PySem L2 SS
section
variable {P : Program} {w : World} {K : PySem.W.Frag} {mg : Str → Option Value} {base : Heap}
/-- a class under StowError and ValueError, not under Missing -/
structure Und (K : PySem.W.Frag) (CT CM C : Addr) : Prop where
  is : XIsi K C
  kt : PySem.W.kitOne K (.ref C) (.ref CT) = some true
  kv : PySem.W.kitOne K (.ref C) (.type "ValueError") = some true
  km : PySem.W.kitOne K (.ref C) (.ref CM) = some false
def Unds (K : PySem.W.Frag) (CT CM : Addr) (H : Hp) (xs : List V) : Prop := ∀ v ∈ xs, ∃ x C, v = V.ref x ∧ XAt H x C ∧ Und K CT CM C
theorem Unds.nil {CT CM : Addr} {H : Hp} : Unds K CT CM H [] := fun v hv => by simp at hv
theorem Unds.cons {CT CM : Addr} {H : Hp} {x C : Addr} {xs : List V} (h : XAt H x C) (u : Und K CT CM C) (t : Unds K CT CM H xs) : Unds K CT CM H (V.ref x :: xs) := fun v hv => by
  rcases List.mem_cons.mp hv with rfl | hv
  · exact ⟨x, C, rfl, h, u⟩
  · exact t v hv
theorem Unds.mono {CT CM : Addr} {H H' : Hp} {xs : List V} (h : Unds K CT CM H xs) (s : Same H H') : Unds K CT CM H' xs := fun v hv => by
  obtain ⟨x, C, e, a, u⟩ := h v hv
  exact ⟨x, C, e, a.mono s, u⟩
theorem Unds.app {CT CM : Addr} {H : Hp} {xs ys : List V} (h : Unds K CT CM H xs) (h' : Unds K CT CM H ys) : Unds K CT CM H (xs ++ ys) := fun v hv => (List.mem_append.mp hv).elim (h v) (h' v)
theorem pick2 {v : Int} (h0 : 0 ≤ v) (h1 : v < 2) : ∃ t : Int, atI [V.int 9, V.int (10 ^ (12 : Int).toNat)] v = some (.int t) ∧ 0 < t ∧ t ≤ 1000000000000 := by
  have : v = 0 ∨ v = 1 := by omega
  rcases this with rfl | rfl
  · exact ⟨9, rfl, by decide, by decide⟩
  · exact ⟨1000000000000, rfl, by decide, by decide⟩
structure ErrD (P : Program) (w : World) (K : PySem.W.Frag) (mg : Str → Option Value) (base : Heap) (csh cbs ctk cgo cdr cun ccr cne cus col cnp cgn cbl cup cnh cst cct CT CM : Addr) : Prop where
  sh : XF P w K mg base "Short" csh ["asked", "there"]
  bs : XF P w K mg base "BadSize" cbs ["size"]
  tk : XF P w K mg base "Taken" ctk ["path"]
  go : XF P w K mg base "GraceOver" cgo ["whose", "began"]
  dr : XF P w K mg base "Dry" cdr ["ticket", "asked", "there"]
  un : XF P w K mg base "Undone" cun ["at", "why"]
  cr : XF P w K mg base "Crowded" ccr ["most"]
  ne : XF P w K mg base "NotEmpty" cne ["path"]
  us : XF P w K mg base "Unsettled" cus ["path"]
  ol : XF P w K mg base "OverLimit" col ["whose", "asked", "most"]
  np : XF P w K mg base "NoPledge" cnp ["ticket"]
  gn : XF0 P w K mg base "Gone" cgn
  bl : XF0 P w K mg base "BadLine" cbl
  up : XF0 P w K mg base "Unplayed" cup
  nh : XF0 P w K mg base "NotHere" cnh
  st : XF0 P w K mg base "Stale" cst
  ct : XF0 P w K mg base "Cut" cct
  mgT : mg "StowError" = some (.ref CT)
  mgM : mg "Missing" = some (.ref CM)
  u_sh : Und K CT CM csh
  u_bs : Und K CT CM cbs
  u_tk : Und K CT CM ctk
  u_go : Und K CT CM cgo
  u_dr : Und K CT CM cdr
  u_un : Und K CT CM cun
  u_cr : Und K CT CM ccr
  u_ne : Und K CT CM cne
  u_us : Und K CT CM cus
  u_ol : Und K CT CM col
  u_gn : Und K CT CM cgn
  u_bl : Und K CT CM cbl
  u_up : Und K CT CM cup
  u_nh : Und K CT CM cnh
  u_st : Und K CT CM cst
  k1 : PySem.W.kitOne K (.ref cct) (.type "RuntimeError") = some true
  k2 : PySem.W.kitOne K (.ref cct) (.type "ValueError") = some false
  k3 : PySem.W.kitOne K (.ref cnp) (.type "ValueError") = some false
abbrev nmLaw : List Str := ["_law_script", "_law_bag_here", "_law_a", "_law_b", "_law_path", "_law_kind", "_law_under", "_law_one", "_law_cut"]
theorem scLaw : FnScope nmLaw ["_law_script"] (defScope sLaw) := ⟨rfl, rfl, rfl, by decide +kernel, rfl, by decide +kernel, by decide +kernel⟩
set_option maxHeartbeats 8000000 in
theorem ok_law {f csh cbs ctk cgo cdr cun ccr cne cus col cnp cgn cbl cup cnh cst cct CT CM : Addr} {fd : FuncData} (F : Fun K "law" "law" sLaw f fd) (T : Txt K mg) (e : ErrD P w K mg base csh cbs ctk cgo cdr cun ccr cne cus col cnp cgn cbl cup cnh cst cct CT CM) (hBag : Has P w K mg base 1 "_law_bag" ["_law_script"] (spBag K)) (hPull : Has P w K mg base 1 "_law_pull" ["_law_bag_here", "_law_top"] spPull)
    (hName : Has P w K mg base 3 "_law_name" ["_law_bag_here", "_law_most"] spName) (hFie : Has P w K mg base 5 "_law_fields" ["_law_a", "_law_b", "_law_path"] spFie) (hTex : Has P w K mg base 5 "_law_texts" ["_law_a", "_law_path"] spTex) (hTak : Has P w K mg base 5 "_law_taken" ["_law_kind", "_law_a", "_law_path"] spTak) : FnOk P w K mg base CX0 7 f fd ["_law_script"] (spLaw K) := by
  refine F.ok scLaw (fun vs H Q E h => ?_) (fun cdv A outer s H vs Q E hr h => ?_)
  · obtain ⟨a, ns, rfl, _⟩ := h; rfl
  · obtain ⟨s0, ns0, rfl, ha, hlen, k⟩ := h
    have hr1 : Room 1 _ := hr.mono (by decide)
    have hr2 : Room 2 _ := hr.mono (by decide)
    have hr3 : Room 3 _ := hr.mono (by decide)
    have hr5 : Room 5 _ := hr.mono (by decide)
    refine ⟨_, pss_cut (ps_set (i := 1) scLaw.nd rfl (Or.inl rfl) (pe_fn hBag hr1 (by rfl) (pa_cons (pv 0) pa_nil)))
      (pss_cut (ps_set (i := 2) scLaw.nd rfl (Or.inl rfl) (pe_op op_sub (pe_fn hPull hr1 (by rfl) (pa_cons (pv 1) (pa_cons (pe_ix ix_list (pe_lst (pa_cons pe_int (pa_cons (pe_op op_pow pe_int pe_int) pa_nil))) (pe_fn hPull hr1 (by rfl) (pa_cons (pv 1) (pa_cons pe_int pa_nil))) (fun _ _ => rfl)) pa_nil))) (pe_fn hPull hr1 (by rfl) (pa_cons (pv 1) (pa_cons pe_int pa_nil)))))
      (pss_cut (ps_set (i := 3) scLaw.nd rfl (Or.inl rfl) (pe_fn hPull hr1 (by rfl) (pa_cons (pv 1) (pa_cons (pe_ix ix_list (pe_lst (pa_cons pe_int (pa_cons (pe_op op_pow pe_int pe_int) pa_nil))) (pe_fn hPull hr1 (by rfl) (pa_cons (pv 1) (pa_cons pe_int pa_nil))) (fun _ _ => rfl)) pa_nil))))
      (pss_cut (ps_set (i := 4) scLaw.nd rfl (Or.inl rfl) (pe_op op_add_str pe_str (pe_fn hName hr3 (by rfl) (pa_cons (pv 1) (pa_cons pe_int pa_nil)))))
      (pss_cut (ps_if (PW.pt (pw_or (pt_not (pt_val (pe_fn hFie hr5 (by rfl) (pa_cons (pv 2) (pa_cons (pv 3) (pa_cons (pv 4) pa_nil)))))) (pw_or1 (pt_not (pt_val (pe_fn hTex hr5 (by rfl) (pa_cons (pv 2) (pa_cons (pv 4) pa_nil)))))))) (pss_one (ps_ret pe_bl)) pss_nil)
      (pss_cut (ps_for PassesOwn.never rfl (pi_range1 (by rfl) T.range (pa_cons pe_int pa_nil)) (pg_name (i := 5) scLaw.nd rfl (Or.inl rfl)) (pss_one (ps_if (pt_not (pt_val (pe_fn hTak hr5 (by rfl) (pa_cons (pv 5) (pa_cons (pv 2) (pa_cons (pv 4) pa_nil)))))) (pss_one (ps_ret pe_bl)) pss_nil)))
      (pss_cut (ps_set (i := 6) scLaw.nd rfl (Or.inl rfl) (pe_lst (pa_cons (pe_xm e.sh hr2 (by rfl) (by decide) (pa_cons (pv 2) (pa_cons (pv 3) pa_nil))) (pa_cons (pe_xm e.bs hr2 (by rfl) (by decide) (pa_cons (pv 2) pa_nil)) (pa_cons (pe_xm e.tk hr2 (by rfl) (by decide) (pa_cons (pv 4) pa_nil)) (pa_cons (pe_xm e.go hr2 (by rfl) (by decide) (pa_cons (pv 2) (pa_cons (pv 3) pa_nil))) (pa_cons (pe_xm e.dr hr2 (by rfl) (by decide) (pa_cons (pv 2) (pa_cons (pv 3) (pa_cons (pv 2) pa_nil)))) (pa_cons (pe_xmZ e.gn (by rfl)) (pa_cons (pe_xm e.un hr2 (by rfl) (by decide) (pa_cons (pv 2) (pa_cons (pv 4) pa_nil))) (pa_cons (pe_xmZ e.bl (by rfl)) pa_nil))))))))))
      (pss_cut (ps_set (i := 6) scLaw.nd rfl (Or.inl rfl) (pe_op op_cat (pv 6) (pe_lst (pa_cons (pe_xm e.cr hr2 (by rfl) (by decide) (pa_cons (pv 2) pa_nil)) (pa_cons (pe_xm e.ne hr2 (by rfl) (by decide) (pa_cons (pv 4) pa_nil)) (pa_cons (pe_xm e.us hr2 (by rfl) (by decide) (pa_cons (pv 4) pa_nil)) (pa_cons (pe_xm e.ol hr2 (by rfl) (by decide) (pa_cons (pv 2) (pa_cons (pv 3) (pa_cons (pv 2) pa_nil)))) (pa_cons (pe_xmZ e.up (by rfl)) (pa_cons (pe_xmZ e.nh (by rfl)) (pa_cons (pe_xmZ e.st (by rfl)) pa_nil))))))))))
      (pss_cut (ps_for PassesOwn.never rfl (pi_list (pv 6)) (pg_name (i := 7) scLaw.nd rfl (Or.inl rfl)) (pss_one (ps_if (PW.pt (pw_or (pt_not (pt_val (pe_callB call_isiG (by rfl) T.isi (by decide +kernel) (pa_cons (pv 7) (pa_cons (pe_glob (v := .ref CT) (by rfl) e.mgT rfl) pa_nil))))) (pw_or (pt_not (pt_val (pe_callB call_isiG (by rfl) T.isi (by decide +kernel) (pa_cons (pv 7) (pa_cons (pe_bltn (v := .ty "ValueError") (by rfl) T.ve (by decide +kernel) rfl) pa_nil))))) (pw_or1 (pt_val (pe_callB call_isiG (by rfl) T.isi (by decide +kernel) (pa_cons (pv 7) (pa_cons (pe_glob (v := .ref CM) (by rfl) e.mgM rfl) pa_nil)))))))) (pss_one (ps_ret pe_bl)) pss_nil)))
      (pss_cut (ps_set (i := 8) scLaw.nd rfl (Or.inl rfl) (pe_xmZ e.ct (by rfl)))
      (pss_one (ps_ret (pe_and (pe_callB call_isiG (by rfl) T.isi (by decide +kernel) (pa_cons (pv 8) (pa_cons (pe_bltn (v := .ty "RuntimeError") (by rfl) T.re (by decide +kernel) rfl) pa_nil))) (pe_and (pe_not (pe_callB call_isiG (by rfl) T.isi (by decide +kernel) (pa_cons (pv 8) (pa_cons (pe_bltn (v := .ty "ValueError") (by rfl) T.ve (by decide +kernel) rfl) pa_nil)))) (pe_one (pe_not (pe_callB call_isiG (by rfl) T.isi (by decide +kernel) (pa_cons (pe_xm e.np hr2 (by rfl) (by decide) (pa_cons (pv 2) pa_nil)) (pa_cons (pe_bltn (v := .ty "ValueError") (by rfl) T.ve (by decide +kernel) rfl) pa_nil)))))))))))))))))), ?_⟩
    refine ⟨fun σ' H' => ∃ b cc, σ' = [some (.ref s0), some (.ref b), none, none, none, none, none, none, none] ∧ BagAt H' b cc, ?_, ?_⟩
    · exact ⟨_, rfl, s0, ns0, rfl, ha, fun b cc H1 sm1 hb0 hc0 B1 => ⟨b, cc, rfl, B1⟩⟩
    rintro σ' H' ⟨b, cc, rfl, B⟩
    refine ⟨fun σ' H' => ∃ a : Int, σ' = [some (.ref s0), some (.ref b), some (.int a), none, none, none, none, none, none] ∧ a.natAbs < 2 ^ 60 ∧ BagAt H' b cc, ?_, ?_⟩
    · refine ⟨_, rfl, _, _, rfl, rfl, ⟨by decide, by decide, by decide⟩, (by show 2 ≤ sizeLine; decide), fun l hl => ⟨_, rfl, b, cc, 2, rfl, by decide, by decide, B.mono (same_new hl), fun v2 xs2 g1 g2 B2 => ?_⟩⟩
      obtain ⟨top, ht, t0, t1⟩ := pick2 g1 g2
      have lb : l ≠ b := (B.new hl).1
      refine ⟨l, _, _, _, rfl, rfl, SqL.of (by rw [upd_ne lb]; exact upd_same), ht, b, cc, top, rfl, t0, by omega, B2, fun va xsa g3 g4 B3 => ?_⟩
      exact ⟨_, rfl, b, cc, 5, rfl, by decide, by decide, B3, fun v5 xs5 g5 g6 B4 => ⟨_, _, rfl, rfl, _, rfl, by omega, B4⟩⟩
    rintro σ' H' ⟨a, rfl, na, B⟩
    refine ⟨fun σ' H' => ∃ c : Int, σ' = [some (.ref s0), some (.ref b), some (.int a), some (.int c), none, none, none, none, none] ∧ c.natAbs < 2 ^ 60 ∧ BagAt H' b cc, ?_, ?_⟩
    · refine ⟨_, rfl, _, _, rfl, rfl, ⟨by decide, by decide, by decide⟩, (by show 2 ≤ sizeLine; decide), fun l hl => ⟨_, rfl, b, cc, 2, rfl, by decide, by decide, B.mono (same_new hl), fun v2 xs2 g1 g2 B2 => ?_⟩⟩
      obtain ⟨top, ht, t0, t1⟩ := pick2 g1 g2
      have lb : l ≠ b := (B.new hl).1
      refine ⟨l, _, _, _, rfl, rfl, SqL.of (by rw [upd_ne lb]; exact upd_same), ht, b, cc, top, rfl, t0, by omega, B2, fun va xsa g3 g4 B3 => ?_⟩
      exact ⟨_, rfl, by omega, B3⟩
    rintro σ' H' ⟨c, rfl, nc, B⟩
    refine ⟨fun σ' H' => ∃ p : Str, σ' = [some (.ref s0), some (.ref b), some (.int a), some (.int c), some (.str p), none, none, none, none] ∧ p.length ≤ 200 ∧ PyData.strOk p = true, ?_, ?_⟩
    · have l1 : ("/" : Str).length = 1 := by decide +kernel
      have qz : sizeLine = 16777216 := by decide
      exact ⟨_, rfl, b, cc, 8, rfl, by decide, by decide, B, fun z H2 sx B2 zl zo => ⟨_, _, rfl, rfl, by omega, _, rfl, by rw [strLen_append]; omega, strOk_app (strOk_ofs _) zo⟩⟩
    rintro σ' H' ⟨p, rfl, np, po⟩
    refine ⟨fun σ' H' => σ' = [some (.ref s0), some (.ref b), some (.int a), some (.int c), some (.str p), none, none, none, none], ?_, ?_⟩
    · refine ⟨_, rfl, _, rfl, _, rfl, a, c, p, rfl, na, nc, np, po, fun J1 s1 => ⟨true, rfl, iteF ?_⟩⟩
      exact ⟨_, rfl, _, rfl, a, p, rfl, na, np, po, fun J2 s2 => ⟨true, rfl, iteF rfl⟩⟩
    rintro σ' H' rfl
    refine ⟨fun σ' H' => ∃ x5, σ' = [some (.ref s0), some (.ref b), some (.int a), some (.int c), some (.str p), x5, none, none, none], ?_, ?_⟩
    · refine ⟨5, rfl, by decide, by decide, for_range (n := 5) (fun i σ H2 => ∃ x5, σ = [some (.ref s0), some (.ref b), some (.int a), some (.int c), some (.str p), x5, none, none, none]) ⟨none, rfl⟩ ?_ ?_⟩
      · rintro i σ H2 hi ⟨x5, rfl⟩
        exact ⟨_, rfl, _, rfl, _, rfl, (0 + (i : Int)), a, p, rfl, by omega, by omega, fun J s1 => ⟨true, rfl, iteF ⟨_, rfl⟩⟩⟩
      · rintro σ H2 ⟨x5, rfl⟩
        exact ⟨x5, rfl⟩
    rintro σ' H' ⟨x5, rfl⟩
    refine ⟨fun σ' H' => ∃ u xs, σ' = [some (.ref s0), some (.ref b), some (.int a), some (.int c), some (.str p), x5, some (.ref u), none, none] ∧ H' u = some (.lst xs) ∧ Unds K CT CM H' xs ∧ xs.length = 8, ?_, ?_⟩
    · refine ⟨_, rfl, _, rfl, rfl, fun x1 d1 H1 s1 h1 y1 e1 f1 => ?_⟩
      refine ⟨_, rfl, rfl, fun x2 d2 H2 s2 h2 y2 e2 f2 => ?_⟩
      refine ⟨_, rfl, rfl, fun x3 d3 H3 s3 h3 y3 e3 f3 => ?_⟩
      refine ⟨_, rfl, _, rfl, rfl, fun x4 d4 H4 s4 h4 y4 e4 f4 => ?_⟩
      refine ⟨_, rfl, _, rfl, _, rfl, rfl, fun x5 d5 H5 s5 h5 y5 e5 f5 => ?_⟩
      refine fun x6 H6 s6 h6 e6 => ?_
      refine ⟨_, rfl, _, rfl, rfl, fun x7 d7 H7 s7 h7 y7 e7 f7 => ?_⟩
      refine fun x8 H8 s8 h8 e8 => ?_
      exact ⟨(by show 8 ≤ sizeLine; decide), fun u hu => ⟨u, _, rfl, upd_same, (Unds.cons ((XAt.some e1 f1).mono (s2.trans (s3.trans (s4.trans (s5.trans (s6.trans (s7.trans (s8.trans (same_new hu))))))))) e.u_sh (Unds.cons ((XAt.some e2 f2).mono (s3.trans (s4.trans (s5.trans (s6.trans (s7.trans (s8.trans (same_new hu)))))))) e.u_bs (Unds.cons ((XAt.some e3 f3).mono (s4.trans (s5.trans (s6.trans (s7.trans (s8.trans (same_new hu))))))) e.u_tk (Unds.cons ((XAt.some e4 f4).mono (s5.trans (s6.trans (s7.trans (s8.trans (same_new hu)))))) e.u_go (Unds.cons ((XAt.some e5 f5).mono (s6.trans (s7.trans (s8.trans (same_new hu))))) e.u_dr (Unds.cons ((XAt.none e6).mono (s7.trans (s8.trans (same_new hu)))) e.u_gn (Unds.cons ((XAt.some e7 f7).mono (s8.trans (same_new hu))) e.u_un (Unds.cons ((XAt.none e8).mono (same_new hu)) e.u_bl Unds.nil)))))))), rfl⟩⟩
    rintro σ' H' ⟨u, xs, rfl, eu, hun, hxl⟩
    refine ⟨fun σ' H' => ∃ u xs, σ' = [some (.ref s0), some (.ref b), some (.int a), some (.int c), some (.str p), x5, some (.ref u), none, none] ∧ H' u = some (.lst xs) ∧ Unds K CT CM H' xs ∧ xs.length = 15, ?_, ?_⟩
    · refine ⟨_, rfl, ?_⟩
      refine ⟨_, rfl, rfl, fun x1 d1 H1 s1 h1 y1 e1 f1 => ?_⟩
      refine ⟨_, rfl, rfl, fun x2 d2 H2 s2 h2 y2 e2 f2 => ?_⟩
      refine ⟨_, rfl, rfl, fun x3 d3 H3 s3 h3 y3 e3 f3 => ?_⟩
      refine ⟨_, rfl, _, rfl, _, rfl, rfl, fun x4 d4 H4 s4 h4 y4 e4 f4 => ?_⟩
      refine fun x5 H5 s5 h5 e5 => ?_
      refine fun x6 H6 s6 h6 e6 => ?_
      refine fun x7 H7 s7 h7 e7 => ?_
      refine ⟨(by show 7 ≤ sizeLine; decide), fun v hv => ⟨u, v, _, _, rfl, rfl, (s1.trans (s2.trans (s3.trans (s4.trans (s5.trans (s6.trans (s7.trans (same_new hv)))))))) _ _ eu, upd_same, Nat.le_of_lt (small1000 (by rw [hxl]; show 8 + 7 ≤ 1000; decide)), fun w' hw => ⟨w', _, rfl, upd_same, ((hun.mono (s1.trans (s2.trans (s3.trans (s4.trans (s5.trans (s6.trans (s7.trans (same_new hv))))))))).mono (same_new hw)).app ((Unds.cons ((XAt.some e1 f1).mono (s2.trans (s3.trans (s4.trans (s5.trans (s6.trans (s7.trans (same_new hv)))))))) e.u_cr (Unds.cons ((XAt.some e2 f2).mono (s3.trans (s4.trans (s5.trans (s6.trans (s7.trans (same_new hv))))))) e.u_ne (Unds.cons ((XAt.some e3 f3).mono (s4.trans (s5.trans (s6.trans (s7.trans (same_new hv)))))) e.u_us (Unds.cons ((XAt.some e4 f4).mono (s5.trans (s6.trans (s7.trans (same_new hv))))) e.u_ol (Unds.cons ((XAt.none e5).mono (s6.trans (s7.trans (same_new hv)))) e.u_up (Unds.cons ((XAt.none e6).mono (s7.trans (same_new hv))) e.u_nh (Unds.cons ((XAt.none e7).mono (same_new hv)) e.u_st Unds.nil))))))).mono (same_new hw)), by rw [List.length_append, hxl]; rfl⟩⟩⟩
    clear eu hun hxl
    rintro σ' H' ⟨u, xs, rfl, eu, hun, hxl⟩
    refine ⟨fun σ' H' => ∃ x7, σ' = [some (.ref s0), some (.ref b), some (.int a), some (.int c), some (.str p), x5, some (.ref u), x7, none], ?_, ?_⟩
    · refine ⟨_, rfl, u, rfl, ⟨_, SqL.of eu⟩, for_list (K := K) (a := u) (xs := xs) (fun i σ H2 => ∃ x7, σ = [some (.ref s0), some (.ref b), some (.int a), some (.int c), some (.str p), x5, some (.ref u), x7, none] ∧ H2 = H') ⟨none, rfl, rfl⟩ (fun i σ H2 _ ⟨_, _, eh⟩ => by rw [eh]; exact SqL.of eu) ?_ ?_⟩
      · rintro i v σ H2 hi ⟨x7, rfl, rfl⟩
        obtain ⟨x, C, rfl, xa, un⟩ := hun v (List.mem_of_getElem? hi)
        refine ⟨_, rfl, x, C, .ref CT, .ref CT, true, rfl, xa, un.is, rfl, uniq_ref, un.kt, true, rfl, iteF ?_⟩
        refine ⟨_, rfl, x, C, .ty "ValueError", .type "ValueError", true, rfl, xa, un.is, rfl, uniq_ty, un.kv, true, rfl, iteF ?_⟩
        exact ⟨_, rfl, x, C, .ref CM, .ref CM, false, rfl, xa, un.is, rfl, uniq_ref, un.km, false, rfl, iteF ⟨_, rfl, rfl⟩⟩
      · rintro σ H2 ⟨x7, rfl, rfl⟩
        exact ⟨x7, rfl⟩
    rintro σ' H' ⟨x7, rfl⟩
    refine ⟨fun σ' H' => ∃ t, σ' = [some (.ref s0), some (.ref b), some (.int a), some (.int c), some (.str p), x5, some (.ref u), x7, some (.ref t)] ∧ XAt H' t cct, ?_, ?_⟩
    · exact fun t H2 s1 h1 e1 => ⟨t, rfl, .none e1⟩
    rintro σ' H' ⟨t, rfl, xt⟩
    refine ⟨_, rfl, t, cct, .ty "RuntimeError", .type "RuntimeError", true, rfl, xt, e.ct.is, rfl, uniq_ty, e.k1, _, rfl, iteT ?_⟩
    refine ⟨_, rfl, t, cct, .ty "ValueError", .type "ValueError", false, rfl, xt, e.ct.is, rfl, uniq_ty, e.k2, _, rfl, _, rfl, iteT ?_⟩
    exact ⟨_, rfl, rfl, fun y d H2 s2 hy yd e2 f2 => ⟨y, cnp, .ty "ValueError", .type "ValueError", false, rfl, .some e2 f2, e.np.own.is, rfl, uniq_ty, e.k3, _, rfl, k _⟩⟩
end
end K21


namespace K21
open PySem L2 SS
set_option maxHeartbeats 0 in
theorem all_mk {l : PySem.W.OpenLaw} {w : World} {K : PySem.W.Frag} {h : Heap} {mg : Str → Option Value} {fa CStowError CMissing CShort f1 f2 CBadSize f3 f4 CBadPath f5 f6 CBadPage f7 f8 CBadMany f9 f10 CBadOwner f11 f12 CTaken f13 f14 CCrowded f15 f16 CNotEmpty f17 f18 CUnsettled f19 f20 CNoRoom f21 f22 COverLimit f23 f24 CGraceOver f25 f26 CDry f27 f28 CGone f29 CStale f30 CUnplayed f31 CNotHere f32 CBadLine f33 CUndone f34 f35 CNoFile f36 f37 CNoFolder f38 f39 CNoPledge f40 f41 CCut f42 f43 f44 f45 f46 f47 f48 f49 f50 f51 : Addr} (X : K.In h) (G : h.Ns mainGlobals mg) (hfa : mg "law" = some (.ref fa))
    {od1 an1 od2 an2 od3 an3 od4 an4 od5 an5 od6 an6 od7 an7 od8 an8 od9 an9 od10 an10 od11 an11 od12 an12 od13 an13 od14 an14 od15 an15 od16 an16 od17 an17 od18 an18 od19 an19 od20 an20 od21 an21 od22 an22 od23 an23 od24 an24 od25 an25 od26 an26 od27 an27 od28 an28 od29 an29 od30 an30 od31 an31 od32 an32 od33 an33 od34 an34 od35 an35 od36 an36 od37 an37 od38 an38 od39 an39 od40 an40 od41 an41 od42 an42 od43 an43 od44 an44 od45 an45 od46 an46 od47 an47 od48 an48 od49 an49 od50 an50 od51 an51 : Option Addr} {sl1 sl2 sl3 sl4 sl5 sl6 sl7 sl8 sl9 sl10 sl11 sl12 sl13 sl14 sl15 sl16 sl17 sl18 sl19 sl20 sl21 sl22 sl23 sl24 sl25 sl26 sl27 sl28 sl29 sl30 sl31 sl32 sl33 sl34 sl35 sl36 sl37 sl38 sl39 sl40 sl41 sl42 sl43 sl44 sl45 sl46 sl47 sl48 sl49 sl50 sl51 : Array (Option Value)} {oc1 kV1 dc1 pm1 cd1 ct1 oc2 kV2 dc2 pm2 cd2 ct2 oc3 kV3 dc3 pm3 cd3 ct3 oc4 kV4 dc4 pm4 cd4 ct4 oc5 kV5 dc5 pm5 cd5 ct5 oc6 kV6 dc6 pm6 cd6 ct6 oc7 kV7 dc7 pm7 cd7 ct7 oc8 kV8 dc8 pm8 cd8 ct8 oc9 kV9 dc9 pm9 cd9 ct9 oc10 kV10 dc10 pm10 cd10 ct10 oc11 kV11 dc11 pm11 cd11 ct11 oc12 kV12 dc12 pm12 cd12 ct12 oc13 kV13 dc13 pm13 cd13 ct13 oc14 kV14 dc14 pm14 cd14 ct14 oc15 kV15 dc15 pm15 cd15 ct15 oc16 kV16 dc16 pm16 cd16 ct16 oc17 kV17 dc17 pm17 cd17 ct17 oc18 kV18 dc18 pm18 cd18 ct18 oc19 kV19 dc19 pm19 cd19 ct19 oc20 kV20 dc20 pm20 cd20 ct20 oc21 kV21 dc21 pm21 cd21 ct21 oc22 kV22 dc22 pm22 cd22 ct22 oc23 kV23 dc23 pm23 cd23 ct23 oc24 kV24 dc24 pm24 cd24 ct24 oc25 kV25 dc25 pm25 cd25 ct25 oc26 kV26 dc26 pm26 cd26 ct26 oc27 kV27 dc27 pm27 cd27 ct27 oc28 kV28 dc28 pm28 cd28 ct28 oc29 kV29 dc29 pm29 cd29 ct29 oc30 kV30 dc30 pm30 cd30 ct30 oc31 kV31 dc31 pm31 cd31 ct31 oc32 kV32 dc32 pm32 cd32 ct32 oc33 kV33 dc33 pm33 cd33 ct33 oc34 kV34 dc34 pm34 cd34 ct34 oc35 kV35 dc35 pm35 cd35 ct35 oc36 kV36 dc36 pm36 cd36 ct36 oc37 kV37 dc37 pm37 cd37 ct37 oc38 kV38 dc38 pm38 cd38 ct38 oc39 kV39 dc39 pm39 cd39 ct39 oc40 kV40 dc40 pm40 cd40 ct40 oc41 kV41 dc41 pm41 cd41 ct41 oc42 kV42 dc42 pm42 cd42 ct42 oc43 kV43 dc43 pm43 cd43 ct43 oc44 kV44 dc44 pm44 cd44 ct44 oc45 kV45 dc45 pm45 cd45 ct45 oc46 kV46 dc46 pm46 cd46 ct46 oc47 kV47 dc47 pm47 cd47 ct47 oc48 kV48 dc48 pm48 cd48 ct48 oc49 kV49 dc49 pm49 cd49 ct49 oc50 kV50 dc50 pm50 cd50 ct50 oc51 kV51 dc51 pm51 cd51 ct51 : Value}
    (aCStowError : PySem.W.nsIn K mainGlobals "StowError" = some (some (.ref CStowError)))
    (ecStowError : excC K CStowError = true)
    (aCMissing : PySem.W.nsIn K mainGlobals "Missing" = some (some (.ref CMissing)))
    (ecMissing : excC K CMissing = true)
    (aCShort : PySem.W.nsIn K mainGlobals "Short" = some (some (.ref CShort)))
    (a1 : PySem.W.findIn K (.ref CShort) "__init__" = some (some (.ref f1))) (i1 : PySem.W.isFn K (.ref f1) = true)
    (l1 : K.lookup f1 = some ⟨oc1, od1, .func (PySem.W.fnOf "__init__" "Short.__init__" (defArgs sIShort) (defBody sIShort) (defScope sIShort) .none kV1 dc1 pm1 an1 cd1 ct1), sl1⟩)
    (c1 : PySem.W.codeIn K cd1 "Short.__init__" = true) (k1 : PySem.W.keepIn K (.ref f1) = true)
    (a2 : PySem.W.findIn K (.ref CShort) "__str__" = some (some (.ref f2))) (i2 : PySem.W.isFn K (.ref f2) = true)
    (l2 : K.lookup f2 = some ⟨oc2, od2, .func (PySem.W.fnOf "__str__" "Short.__str__" (defArgs sSShort) (defBody sSShort) (defScope sSShort) .none kV2 dc2 pm2 an2 cd2 ct2), sl2⟩)
    (c2 : PySem.W.codeIn K cd2 "Short.__str__" = true) (k2 : PySem.W.keepIn K (.ref f2) = true)
    (xiShort : excInI K CShort f1 bmV "ValueError.__new__" = true)
    (kcShort : PySem.W.keepIn K (.ref CShort) = true)
    (hdShort : PySem.W.hasDictIn K CShort = true)
    (obShort : PySem.W.mroIn K CShort (.type "object") = some true)
    (gaShort : PySem.W.findIn K (.ref CShort) "__getattribute__" = some (some (.builtin "BaseException.__getattribute__")))
    (gnShort : PySem.W.findIn K (.ref CShort) "__getattr__" = some none)
    (beShort : PySem.W.mroIn K CShort (.type "BaseException") = some true)
    (haShort : PySem.W.findIn K (.ref CShort) "__class__" = some (some (.builtin "object.__class__")))
    (saShort : PySem.W.findIn K (.ref CShort) "__setattr__" = some (some (.builtin "object.__setattr__")))
    (roShort : roInB K bmV CShort = true)
    (naShort0 : PySem.W.findIn K (.ref CShort) "asked" = some none)
    (naShort1 : PySem.W.findIn K (.ref CShort) "there" = some none)
    (aCBadSize : PySem.W.nsIn K mainGlobals "BadSize" = some (some (.ref CBadSize)))
    (a3 : PySem.W.findIn K (.ref CBadSize) "__init__" = some (some (.ref f3))) (i3 : PySem.W.isFn K (.ref f3) = true)
    (l3 : K.lookup f3 = some ⟨oc3, od3, .func (PySem.W.fnOf "__init__" "BadSize.__init__" (defArgs sIBadSize) (defBody sIBadSize) (defScope sIBadSize) .none kV3 dc3 pm3 an3 cd3 ct3), sl3⟩)
    (c3 : PySem.W.codeIn K cd3 "BadSize.__init__" = true) (k3 : PySem.W.keepIn K (.ref f3) = true)
    (a4 : PySem.W.findIn K (.ref CBadSize) "__str__" = some (some (.ref f4))) (i4 : PySem.W.isFn K (.ref f4) = true)
    (l4 : K.lookup f4 = some ⟨oc4, od4, .func (PySem.W.fnOf "__str__" "BadSize.__str__" (defArgs sSBadSize) (defBody sSBadSize) (defScope sSBadSize) .none kV4 dc4 pm4 an4 cd4 ct4), sl4⟩)
    (c4 : PySem.W.codeIn K cd4 "BadSize.__str__" = true) (k4 : PySem.W.keepIn K (.ref f4) = true)
    (xiBadSize : excInI K CBadSize f3 bmV "ValueError.__new__" = true)
    (kcBadSize : PySem.W.keepIn K (.ref CBadSize) = true)
    (hdBadSize : PySem.W.hasDictIn K CBadSize = true)
    (obBadSize : PySem.W.mroIn K CBadSize (.type "object") = some true)
    (gaBadSize : PySem.W.findIn K (.ref CBadSize) "__getattribute__" = some (some (.builtin "BaseException.__getattribute__")))
    (gnBadSize : PySem.W.findIn K (.ref CBadSize) "__getattr__" = some none)
    (beBadSize : PySem.W.mroIn K CBadSize (.type "BaseException") = some true)
    (haBadSize : PySem.W.findIn K (.ref CBadSize) "__class__" = some (some (.builtin "object.__class__")))
    (saBadSize : PySem.W.findIn K (.ref CBadSize) "__setattr__" = some (some (.builtin "object.__setattr__")))
    (roBadSize : roInB K bmV CBadSize = true)
    (naBadSize0 : PySem.W.findIn K (.ref CBadSize) "size" = some none)
    (aCBadPath : PySem.W.nsIn K mainGlobals "BadPath" = some (some (.ref CBadPath)))
    (a5 : PySem.W.findIn K (.ref CBadPath) "__init__" = some (some (.ref f5))) (i5 : PySem.W.isFn K (.ref f5) = true)
    (l5 : K.lookup f5 = some ⟨oc5, od5, .func (PySem.W.fnOf "__init__" "BadPath.__init__" (defArgs sIBadPath) (defBody sIBadPath) (defScope sIBadPath) .none kV5 dc5 pm5 an5 cd5 ct5), sl5⟩)
    (c5 : PySem.W.codeIn K cd5 "BadPath.__init__" = true) (k5 : PySem.W.keepIn K (.ref f5) = true)
    (a6 : PySem.W.findIn K (.ref CBadPath) "__str__" = some (some (.ref f6))) (i6 : PySem.W.isFn K (.ref f6) = true)
    (l6 : K.lookup f6 = some ⟨oc6, od6, .func (PySem.W.fnOf "__str__" "BadPath.__str__" (defArgs sSBadPath) (defBody sSBadPath) (defScope sSBadPath) .none kV6 dc6 pm6 an6 cd6 ct6), sl6⟩)
    (c6 : PySem.W.codeIn K cd6 "BadPath.__str__" = true) (k6 : PySem.W.keepIn K (.ref f6) = true)
    (xiBadPath : excInI K CBadPath f5 bmV "ValueError.__new__" = true)
    (kcBadPath : PySem.W.keepIn K (.ref CBadPath) = true)
    (hdBadPath : PySem.W.hasDictIn K CBadPath = true)
    (obBadPath : PySem.W.mroIn K CBadPath (.type "object") = some true)
    (gaBadPath : PySem.W.findIn K (.ref CBadPath) "__getattribute__" = some (some (.builtin "BaseException.__getattribute__")))
    (gnBadPath : PySem.W.findIn K (.ref CBadPath) "__getattr__" = some none)
    (beBadPath : PySem.W.mroIn K CBadPath (.type "BaseException") = some true)
    (haBadPath : PySem.W.findIn K (.ref CBadPath) "__class__" = some (some (.builtin "object.__class__")))
    (saBadPath : PySem.W.findIn K (.ref CBadPath) "__setattr__" = some (some (.builtin "object.__setattr__")))
    (roBadPath : roInB K bmV CBadPath = true)
    (naBadPath0 : PySem.W.findIn K (.ref CBadPath) "path" = some none)
    (aCBadPage : PySem.W.nsIn K mainGlobals "BadPage" = some (some (.ref CBadPage)))
    (a7 : PySem.W.findIn K (.ref CBadPage) "__init__" = some (some (.ref f7))) (i7 : PySem.W.isFn K (.ref f7) = true)
    (l7 : K.lookup f7 = some ⟨oc7, od7, .func (PySem.W.fnOf "__init__" "BadPage.__init__" (defArgs sIBadPage) (defBody sIBadPage) (defScope sIBadPage) .none kV7 dc7 pm7 an7 cd7 ct7), sl7⟩)
    (c7 : PySem.W.codeIn K cd7 "BadPage.__init__" = true) (k7 : PySem.W.keepIn K (.ref f7) = true)
    (a8 : PySem.W.findIn K (.ref CBadPage) "__str__" = some (some (.ref f8))) (i8 : PySem.W.isFn K (.ref f8) = true)
    (l8 : K.lookup f8 = some ⟨oc8, od8, .func (PySem.W.fnOf "__str__" "BadPage.__str__" (defArgs sSBadPage) (defBody sSBadPage) (defScope sSBadPage) .none kV8 dc8 pm8 an8 cd8 ct8), sl8⟩)
    (c8 : PySem.W.codeIn K cd8 "BadPage.__str__" = true) (k8 : PySem.W.keepIn K (.ref f8) = true)
    (xiBadPage : excInI K CBadPage f7 bmV "ValueError.__new__" = true)
    (kcBadPage : PySem.W.keepIn K (.ref CBadPage) = true)
    (hdBadPage : PySem.W.hasDictIn K CBadPage = true)
    (obBadPage : PySem.W.mroIn K CBadPage (.type "object") = some true)
    (gaBadPage : PySem.W.findIn K (.ref CBadPage) "__getattribute__" = some (some (.builtin "BaseException.__getattribute__")))
    (gnBadPage : PySem.W.findIn K (.ref CBadPage) "__getattr__" = some none)
    (beBadPage : PySem.W.mroIn K CBadPage (.type "BaseException") = some true)
    (haBadPage : PySem.W.findIn K (.ref CBadPage) "__class__" = some (some (.builtin "object.__class__")))
    (saBadPage : PySem.W.findIn K (.ref CBadPage) "__setattr__" = some (some (.builtin "object.__setattr__")))
    (roBadPage : roInB K bmV CBadPage = true)
    (naBadPage0 : PySem.W.findIn K (.ref CBadPage) "page" = some none)
    (aCBadMany : PySem.W.nsIn K mainGlobals "BadMany" = some (some (.ref CBadMany)))
    (a9 : PySem.W.findIn K (.ref CBadMany) "__init__" = some (some (.ref f9))) (i9 : PySem.W.isFn K (.ref f9) = true)
    (l9 : K.lookup f9 = some ⟨oc9, od9, .func (PySem.W.fnOf "__init__" "BadMany.__init__" (defArgs sIBadMany) (defBody sIBadMany) (defScope sIBadMany) .none kV9 dc9 pm9 an9 cd9 ct9), sl9⟩)
    (c9 : PySem.W.codeIn K cd9 "BadMany.__init__" = true) (k9 : PySem.W.keepIn K (.ref f9) = true)
    (a10 : PySem.W.findIn K (.ref CBadMany) "__str__" = some (some (.ref f10))) (i10 : PySem.W.isFn K (.ref f10) = true)
    (l10 : K.lookup f10 = some ⟨oc10, od10, .func (PySem.W.fnOf "__str__" "BadMany.__str__" (defArgs sSBadMany) (defBody sSBadMany) (defScope sSBadMany) .none kV10 dc10 pm10 an10 cd10 ct10), sl10⟩)
    (c10 : PySem.W.codeIn K cd10 "BadMany.__str__" = true) (k10 : PySem.W.keepIn K (.ref f10) = true)
    (xiBadMany : excInI K CBadMany f9 bmV "ValueError.__new__" = true)
    (kcBadMany : PySem.W.keepIn K (.ref CBadMany) = true)
    (hdBadMany : PySem.W.hasDictIn K CBadMany = true)
    (obBadMany : PySem.W.mroIn K CBadMany (.type "object") = some true)
    (gaBadMany : PySem.W.findIn K (.ref CBadMany) "__getattribute__" = some (some (.builtin "BaseException.__getattribute__")))
    (gnBadMany : PySem.W.findIn K (.ref CBadMany) "__getattr__" = some none)
    (beBadMany : PySem.W.mroIn K CBadMany (.type "BaseException") = some true)
    (haBadMany : PySem.W.findIn K (.ref CBadMany) "__class__" = some (some (.builtin "object.__class__")))
    (saBadMany : PySem.W.findIn K (.ref CBadMany) "__setattr__" = some (some (.builtin "object.__setattr__")))
    (roBadMany : roInB K bmV CBadMany = true)
    (naBadMany0 : PySem.W.findIn K (.ref CBadMany) "many" = some none)
    (aCBadOwner : PySem.W.nsIn K mainGlobals "BadOwner" = some (some (.ref CBadOwner)))
    (a11 : PySem.W.findIn K (.ref CBadOwner) "__init__" = some (some (.ref f11))) (i11 : PySem.W.isFn K (.ref f11) = true)
    (l11 : K.lookup f11 = some ⟨oc11, od11, .func (PySem.W.fnOf "__init__" "BadOwner.__init__" (defArgs sIBadOwner) (defBody sIBadOwner) (defScope sIBadOwner) .none kV11 dc11 pm11 an11 cd11 ct11), sl11⟩)
    (c11 : PySem.W.codeIn K cd11 "BadOwner.__init__" = true) (k11 : PySem.W.keepIn K (.ref f11) = true)
    (a12 : PySem.W.findIn K (.ref CBadOwner) "__str__" = some (some (.ref f12))) (i12 : PySem.W.isFn K (.ref f12) = true)
    (l12 : K.lookup f12 = some ⟨oc12, od12, .func (PySem.W.fnOf "__str__" "BadOwner.__str__" (defArgs sSBadOwner) (defBody sSBadOwner) (defScope sSBadOwner) .none kV12 dc12 pm12 an12 cd12 ct12), sl12⟩)
    (c12 : PySem.W.codeIn K cd12 "BadOwner.__str__" = true) (k12 : PySem.W.keepIn K (.ref f12) = true)
    (xiBadOwner : excInI K CBadOwner f11 bmV "ValueError.__new__" = true)
    (kcBadOwner : PySem.W.keepIn K (.ref CBadOwner) = true)
    (hdBadOwner : PySem.W.hasDictIn K CBadOwner = true)
    (obBadOwner : PySem.W.mroIn K CBadOwner (.type "object") = some true)
    (gaBadOwner : PySem.W.findIn K (.ref CBadOwner) "__getattribute__" = some (some (.builtin "BaseException.__getattribute__")))
    (gnBadOwner : PySem.W.findIn K (.ref CBadOwner) "__getattr__" = some none)
    (beBadOwner : PySem.W.mroIn K CBadOwner (.type "BaseException") = some true)
    (haBadOwner : PySem.W.findIn K (.ref CBadOwner) "__class__" = some (some (.builtin "object.__class__")))
    (saBadOwner : PySem.W.findIn K (.ref CBadOwner) "__setattr__" = some (some (.builtin "object.__setattr__")))
    (roBadOwner : roInB K bmV CBadOwner = true)
    (naBadOwner0 : PySem.W.findIn K (.ref CBadOwner) "whose" = some none)
    (aCTaken : PySem.W.nsIn K mainGlobals "Taken" = some (some (.ref CTaken)))
    (a13 : PySem.W.findIn K (.ref CTaken) "__init__" = some (some (.ref f13))) (i13 : PySem.W.isFn K (.ref f13) = true)
    (l13 : K.lookup f13 = some ⟨oc13, od13, .func (PySem.W.fnOf "__init__" "Taken.__init__" (defArgs sITaken) (defBody sITaken) (defScope sITaken) .none kV13 dc13 pm13 an13 cd13 ct13), sl13⟩)
    (c13 : PySem.W.codeIn K cd13 "Taken.__init__" = true) (k13 : PySem.W.keepIn K (.ref f13) = true)
    (a14 : PySem.W.findIn K (.ref CTaken) "__str__" = some (some (.ref f14))) (i14 : PySem.W.isFn K (.ref f14) = true)
    (l14 : K.lookup f14 = some ⟨oc14, od14, .func (PySem.W.fnOf "__str__" "Taken.__str__" (defArgs sSTaken) (defBody sSTaken) (defScope sSTaken) .none kV14 dc14 pm14 an14 cd14 ct14), sl14⟩)
    (c14 : PySem.W.codeIn K cd14 "Taken.__str__" = true) (k14 : PySem.W.keepIn K (.ref f14) = true)
    (xiTaken : excInI K CTaken f13 bmV "ValueError.__new__" = true)
    (kcTaken : PySem.W.keepIn K (.ref CTaken) = true)
    (hdTaken : PySem.W.hasDictIn K CTaken = true)
    (obTaken : PySem.W.mroIn K CTaken (.type "object") = some true)
    (gaTaken : PySem.W.findIn K (.ref CTaken) "__getattribute__" = some (some (.builtin "BaseException.__getattribute__")))
    (gnTaken : PySem.W.findIn K (.ref CTaken) "__getattr__" = some none)
    (beTaken : PySem.W.mroIn K CTaken (.type "BaseException") = some true)
    (haTaken : PySem.W.findIn K (.ref CTaken) "__class__" = some (some (.builtin "object.__class__")))
    (saTaken : PySem.W.findIn K (.ref CTaken) "__setattr__" = some (some (.builtin "object.__setattr__")))
    (roTaken : roInB K bmV CTaken = true)
    (naTaken0 : PySem.W.findIn K (.ref CTaken) "path" = some none)
    (aCCrowded : PySem.W.nsIn K mainGlobals "Crowded" = some (some (.ref CCrowded)))
    (a15 : PySem.W.findIn K (.ref CCrowded) "__init__" = some (some (.ref f15))) (i15 : PySem.W.isFn K (.ref f15) = true)
    (l15 : K.lookup f15 = some ⟨oc15, od15, .func (PySem.W.fnOf "__init__" "Crowded.__init__" (defArgs sICrowded) (defBody sICrowded) (defScope sICrowded) .none kV15 dc15 pm15 an15 cd15 ct15), sl15⟩)
    (c15 : PySem.W.codeIn K cd15 "Crowded.__init__" = true) (k15 : PySem.W.keepIn K (.ref f15) = true)
    (a16 : PySem.W.findIn K (.ref CCrowded) "__str__" = some (some (.ref f16))) (i16 : PySem.W.isFn K (.ref f16) = true)
    (l16 : K.lookup f16 = some ⟨oc16, od16, .func (PySem.W.fnOf "__str__" "Crowded.__str__" (defArgs sSCrowded) (defBody sSCrowded) (defScope sSCrowded) .none kV16 dc16 pm16 an16 cd16 ct16), sl16⟩)
    (c16 : PySem.W.codeIn K cd16 "Crowded.__str__" = true) (k16 : PySem.W.keepIn K (.ref f16) = true)
    (xiCrowded : excInI K CCrowded f15 bmV "ValueError.__new__" = true)
    (kcCrowded : PySem.W.keepIn K (.ref CCrowded) = true)
    (hdCrowded : PySem.W.hasDictIn K CCrowded = true)
    (obCrowded : PySem.W.mroIn K CCrowded (.type "object") = some true)
    (gaCrowded : PySem.W.findIn K (.ref CCrowded) "__getattribute__" = some (some (.builtin "BaseException.__getattribute__")))
    (gnCrowded : PySem.W.findIn K (.ref CCrowded) "__getattr__" = some none)
    (beCrowded : PySem.W.mroIn K CCrowded (.type "BaseException") = some true)
    (haCrowded : PySem.W.findIn K (.ref CCrowded) "__class__" = some (some (.builtin "object.__class__")))
    (saCrowded : PySem.W.findIn K (.ref CCrowded) "__setattr__" = some (some (.builtin "object.__setattr__")))
    (roCrowded : roInB K bmV CCrowded = true)
    (naCrowded0 : PySem.W.findIn K (.ref CCrowded) "most" = some none)
    (aCNotEmpty : PySem.W.nsIn K mainGlobals "NotEmpty" = some (some (.ref CNotEmpty)))
    (a17 : PySem.W.findIn K (.ref CNotEmpty) "__init__" = some (some (.ref f17))) (i17 : PySem.W.isFn K (.ref f17) = true)
    (l17 : K.lookup f17 = some ⟨oc17, od17, .func (PySem.W.fnOf "__init__" "NotEmpty.__init__" (defArgs sINotEmpty) (defBody sINotEmpty) (defScope sINotEmpty) .none kV17 dc17 pm17 an17 cd17 ct17), sl17⟩)
    (c17 : PySem.W.codeIn K cd17 "NotEmpty.__init__" = true) (k17 : PySem.W.keepIn K (.ref f17) = true)
    (a18 : PySem.W.findIn K (.ref CNotEmpty) "__str__" = some (some (.ref f18))) (i18 : PySem.W.isFn K (.ref f18) = true)
    (l18 : K.lookup f18 = some ⟨oc18, od18, .func (PySem.W.fnOf "__str__" "NotEmpty.__str__" (defArgs sSNotEmpty) (defBody sSNotEmpty) (defScope sSNotEmpty) .none kV18 dc18 pm18 an18 cd18 ct18), sl18⟩)
    (c18 : PySem.W.codeIn K cd18 "NotEmpty.__str__" = true) (k18 : PySem.W.keepIn K (.ref f18) = true)
    (xiNotEmpty : excInI K CNotEmpty f17 bmV "ValueError.__new__" = true)
    (kcNotEmpty : PySem.W.keepIn K (.ref CNotEmpty) = true)
    (hdNotEmpty : PySem.W.hasDictIn K CNotEmpty = true)
    (obNotEmpty : PySem.W.mroIn K CNotEmpty (.type "object") = some true)
    (gaNotEmpty : PySem.W.findIn K (.ref CNotEmpty) "__getattribute__" = some (some (.builtin "BaseException.__getattribute__")))
    (gnNotEmpty : PySem.W.findIn K (.ref CNotEmpty) "__getattr__" = some none)
    (beNotEmpty : PySem.W.mroIn K CNotEmpty (.type "BaseException") = some true)
    (haNotEmpty : PySem.W.findIn K (.ref CNotEmpty) "__class__" = some (some (.builtin "object.__class__")))
    (saNotEmpty : PySem.W.findIn K (.ref CNotEmpty) "__setattr__" = some (some (.builtin "object.__setattr__")))
    (roNotEmpty : roInB K bmV CNotEmpty = true)
    (naNotEmpty0 : PySem.W.findIn K (.ref CNotEmpty) "path" = some none)
    (aCUnsettled : PySem.W.nsIn K mainGlobals "Unsettled" = some (some (.ref CUnsettled)))
    (a19 : PySem.W.findIn K (.ref CUnsettled) "__init__" = some (some (.ref f19))) (i19 : PySem.W.isFn K (.ref f19) = true)
    (l19 : K.lookup f19 = some ⟨oc19, od19, .func (PySem.W.fnOf "__init__" "Unsettled.__init__" (defArgs sIUnsettled) (defBody sIUnsettled) (defScope sIUnsettled) .none kV19 dc19 pm19 an19 cd19 ct19), sl19⟩)
    (c19 : PySem.W.codeIn K cd19 "Unsettled.__init__" = true) (k19 : PySem.W.keepIn K (.ref f19) = true)
    (a20 : PySem.W.findIn K (.ref CUnsettled) "__str__" = some (some (.ref f20))) (i20 : PySem.W.isFn K (.ref f20) = true)
    (l20 : K.lookup f20 = some ⟨oc20, od20, .func (PySem.W.fnOf "__str__" "Unsettled.__str__" (defArgs sSUnsettled) (defBody sSUnsettled) (defScope sSUnsettled) .none kV20 dc20 pm20 an20 cd20 ct20), sl20⟩)
    (c20 : PySem.W.codeIn K cd20 "Unsettled.__str__" = true) (k20 : PySem.W.keepIn K (.ref f20) = true)
    (xiUnsettled : excInI K CUnsettled f19 bmV "ValueError.__new__" = true)
    (kcUnsettled : PySem.W.keepIn K (.ref CUnsettled) = true)
    (hdUnsettled : PySem.W.hasDictIn K CUnsettled = true)
    (obUnsettled : PySem.W.mroIn K CUnsettled (.type "object") = some true)
    (gaUnsettled : PySem.W.findIn K (.ref CUnsettled) "__getattribute__" = some (some (.builtin "BaseException.__getattribute__")))
    (gnUnsettled : PySem.W.findIn K (.ref CUnsettled) "__getattr__" = some none)
    (beUnsettled : PySem.W.mroIn K CUnsettled (.type "BaseException") = some true)
    (haUnsettled : PySem.W.findIn K (.ref CUnsettled) "__class__" = some (some (.builtin "object.__class__")))
    (saUnsettled : PySem.W.findIn K (.ref CUnsettled) "__setattr__" = some (some (.builtin "object.__setattr__")))
    (roUnsettled : roInB K bmV CUnsettled = true)
    (naUnsettled0 : PySem.W.findIn K (.ref CUnsettled) "path" = some none)
    (aCNoRoom : PySem.W.nsIn K mainGlobals "NoRoom" = some (some (.ref CNoRoom)))
    (a21 : PySem.W.findIn K (.ref CNoRoom) "__init__" = some (some (.ref f21))) (i21 : PySem.W.isFn K (.ref f21) = true)
    (l21 : K.lookup f21 = some ⟨oc21, od21, .func (PySem.W.fnOf "__init__" "NoRoom.__init__" (defArgs sINoRoom) (defBody sINoRoom) (defScope sINoRoom) .none kV21 dc21 pm21 an21 cd21 ct21), sl21⟩)
    (c21 : PySem.W.codeIn K cd21 "NoRoom.__init__" = true) (k21 : PySem.W.keepIn K (.ref f21) = true)
    (a22 : PySem.W.findIn K (.ref CNoRoom) "__str__" = some (some (.ref f22))) (i22 : PySem.W.isFn K (.ref f22) = true)
    (l22 : K.lookup f22 = some ⟨oc22, od22, .func (PySem.W.fnOf "__str__" "NoRoom.__str__" (defArgs sSNoRoom) (defBody sSNoRoom) (defScope sSNoRoom) .none kV22 dc22 pm22 an22 cd22 ct22), sl22⟩)
    (c22 : PySem.W.codeIn K cd22 "NoRoom.__str__" = true) (k22 : PySem.W.keepIn K (.ref f22) = true)
    (xiNoRoom : excInI K CNoRoom f21 bmV "ValueError.__new__" = true)
    (kcNoRoom : PySem.W.keepIn K (.ref CNoRoom) = true)
    (hdNoRoom : PySem.W.hasDictIn K CNoRoom = true)
    (obNoRoom : PySem.W.mroIn K CNoRoom (.type "object") = some true)
    (gaNoRoom : PySem.W.findIn K (.ref CNoRoom) "__getattribute__" = some (some (.builtin "BaseException.__getattribute__")))
    (gnNoRoom : PySem.W.findIn K (.ref CNoRoom) "__getattr__" = some none)
    (beNoRoom : PySem.W.mroIn K CNoRoom (.type "BaseException") = some true)
    (haNoRoom : PySem.W.findIn K (.ref CNoRoom) "__class__" = some (some (.builtin "object.__class__")))
    (saNoRoom : PySem.W.findIn K (.ref CNoRoom) "__setattr__" = some (some (.builtin "object.__setattr__")))
    (roNoRoom : roInB K bmV CNoRoom = true)
    (naNoRoom0 : PySem.W.findIn K (.ref CNoRoom) "asked" = some none)
    (naNoRoom1 : PySem.W.findIn K (.ref CNoRoom) "there" = some none)
    (naNoRoom2 : PySem.W.findIn K (.ref CNoRoom) "helps" = some none)
    (aCOverLimit : PySem.W.nsIn K mainGlobals "OverLimit" = some (some (.ref COverLimit)))
    (a23 : PySem.W.findIn K (.ref COverLimit) "__init__" = some (some (.ref f23))) (i23 : PySem.W.isFn K (.ref f23) = true)
    (l23 : K.lookup f23 = some ⟨oc23, od23, .func (PySem.W.fnOf "__init__" "OverLimit.__init__" (defArgs sIOverLimit) (defBody sIOverLimit) (defScope sIOverLimit) .none kV23 dc23 pm23 an23 cd23 ct23), sl23⟩)
    (c23 : PySem.W.codeIn K cd23 "OverLimit.__init__" = true) (k23 : PySem.W.keepIn K (.ref f23) = true)
    (a24 : PySem.W.findIn K (.ref COverLimit) "__str__" = some (some (.ref f24))) (i24 : PySem.W.isFn K (.ref f24) = true)
    (l24 : K.lookup f24 = some ⟨oc24, od24, .func (PySem.W.fnOf "__str__" "OverLimit.__str__" (defArgs sSOverLimit) (defBody sSOverLimit) (defScope sSOverLimit) .none kV24 dc24 pm24 an24 cd24 ct24), sl24⟩)
    (c24 : PySem.W.codeIn K cd24 "OverLimit.__str__" = true) (k24 : PySem.W.keepIn K (.ref f24) = true)
    (xiOverLimit : excInI K COverLimit f23 bmV "ValueError.__new__" = true)
    (kcOverLimit : PySem.W.keepIn K (.ref COverLimit) = true)
    (hdOverLimit : PySem.W.hasDictIn K COverLimit = true)
    (obOverLimit : PySem.W.mroIn K COverLimit (.type "object") = some true)
    (gaOverLimit : PySem.W.findIn K (.ref COverLimit) "__getattribute__" = some (some (.builtin "BaseException.__getattribute__")))
    (gnOverLimit : PySem.W.findIn K (.ref COverLimit) "__getattr__" = some none)
    (beOverLimit : PySem.W.mroIn K COverLimit (.type "BaseException") = some true)
    (haOverLimit : PySem.W.findIn K (.ref COverLimit) "__class__" = some (some (.builtin "object.__class__")))
    (saOverLimit : PySem.W.findIn K (.ref COverLimit) "__setattr__" = some (some (.builtin "object.__setattr__")))
    (roOverLimit : roInB K bmV COverLimit = true)
    (naOverLimit0 : PySem.W.findIn K (.ref COverLimit) "whose" = some none)
    (naOverLimit1 : PySem.W.findIn K (.ref COverLimit) "asked" = some none)
    (naOverLimit2 : PySem.W.findIn K (.ref COverLimit) "most" = some none)
    (aCGraceOver : PySem.W.nsIn K mainGlobals "GraceOver" = some (some (.ref CGraceOver)))
    (a25 : PySem.W.findIn K (.ref CGraceOver) "__init__" = some (some (.ref f25))) (i25 : PySem.W.isFn K (.ref f25) = true)
    (l25 : K.lookup f25 = some ⟨oc25, od25, .func (PySem.W.fnOf "__init__" "GraceOver.__init__" (defArgs sIGraceOver) (defBody sIGraceOver) (defScope sIGraceOver) .none kV25 dc25 pm25 an25 cd25 ct25), sl25⟩)
    (c25 : PySem.W.codeIn K cd25 "GraceOver.__init__" = true) (k25 : PySem.W.keepIn K (.ref f25) = true)
    (a26 : PySem.W.findIn K (.ref CGraceOver) "__str__" = some (some (.ref f26))) (i26 : PySem.W.isFn K (.ref f26) = true)
    (l26 : K.lookup f26 = some ⟨oc26, od26, .func (PySem.W.fnOf "__str__" "GraceOver.__str__" (defArgs sSGraceOver) (defBody sSGraceOver) (defScope sSGraceOver) .none kV26 dc26 pm26 an26 cd26 ct26), sl26⟩)
    (c26 : PySem.W.codeIn K cd26 "GraceOver.__str__" = true) (k26 : PySem.W.keepIn K (.ref f26) = true)
    (xiGraceOver : excInI K CGraceOver f25 bmV "ValueError.__new__" = true)
    (kcGraceOver : PySem.W.keepIn K (.ref CGraceOver) = true)
    (hdGraceOver : PySem.W.hasDictIn K CGraceOver = true)
    (obGraceOver : PySem.W.mroIn K CGraceOver (.type "object") = some true)
    (gaGraceOver : PySem.W.findIn K (.ref CGraceOver) "__getattribute__" = some (some (.builtin "BaseException.__getattribute__")))
    (gnGraceOver : PySem.W.findIn K (.ref CGraceOver) "__getattr__" = some none)
    (beGraceOver : PySem.W.mroIn K CGraceOver (.type "BaseException") = some true)
    (haGraceOver : PySem.W.findIn K (.ref CGraceOver) "__class__" = some (some (.builtin "object.__class__")))
    (saGraceOver : PySem.W.findIn K (.ref CGraceOver) "__setattr__" = some (some (.builtin "object.__setattr__")))
    (roGraceOver : roInB K bmV CGraceOver = true)
    (naGraceOver0 : PySem.W.findIn K (.ref CGraceOver) "whose" = some none)
    (naGraceOver1 : PySem.W.findIn K (.ref CGraceOver) "began" = some none)
    (aCDry : PySem.W.nsIn K mainGlobals "Dry" = some (some (.ref CDry)))
    (a27 : PySem.W.findIn K (.ref CDry) "__init__" = some (some (.ref f27))) (i27 : PySem.W.isFn K (.ref f27) = true)
    (l27 : K.lookup f27 = some ⟨oc27, od27, .func (PySem.W.fnOf "__init__" "Dry.__init__" (defArgs sIDry) (defBody sIDry) (defScope sIDry) .none kV27 dc27 pm27 an27 cd27 ct27), sl27⟩)
    (c27 : PySem.W.codeIn K cd27 "Dry.__init__" = true) (k27 : PySem.W.keepIn K (.ref f27) = true)
    (a28 : PySem.W.findIn K (.ref CDry) "__str__" = some (some (.ref f28))) (i28 : PySem.W.isFn K (.ref f28) = true)
    (l28 : K.lookup f28 = some ⟨oc28, od28, .func (PySem.W.fnOf "__str__" "Dry.__str__" (defArgs sSDry) (defBody sSDry) (defScope sSDry) .none kV28 dc28 pm28 an28 cd28 ct28), sl28⟩)
    (c28 : PySem.W.codeIn K cd28 "Dry.__str__" = true) (k28 : PySem.W.keepIn K (.ref f28) = true)
    (xiDry : excInI K CDry f27 bmV "ValueError.__new__" = true)
    (kcDry : PySem.W.keepIn K (.ref CDry) = true)
    (hdDry : PySem.W.hasDictIn K CDry = true)
    (obDry : PySem.W.mroIn K CDry (.type "object") = some true)
    (gaDry : PySem.W.findIn K (.ref CDry) "__getattribute__" = some (some (.builtin "BaseException.__getattribute__")))
    (gnDry : PySem.W.findIn K (.ref CDry) "__getattr__" = some none)
    (beDry : PySem.W.mroIn K CDry (.type "BaseException") = some true)
    (haDry : PySem.W.findIn K (.ref CDry) "__class__" = some (some (.builtin "object.__class__")))
    (saDry : PySem.W.findIn K (.ref CDry) "__setattr__" = some (some (.builtin "object.__setattr__")))
    (roDry : roInB K bmV CDry = true)
    (naDry0 : PySem.W.findIn K (.ref CDry) "ticket" = some none)
    (naDry1 : PySem.W.findIn K (.ref CDry) "asked" = some none)
    (naDry2 : PySem.W.findIn K (.ref CDry) "there" = some none)
    (aCGone : PySem.W.nsIn K mainGlobals "Gone" = some (some (.ref CGone)))
    (a29 : PySem.W.findIn K (.ref CGone) "__str__" = some (some (.ref f29))) (i29 : PySem.W.isFn K (.ref f29) = true)
    (l29 : K.lookup f29 = some ⟨oc29, od29, .func (PySem.W.fnOf "__str__" "Gone.__str__" (defArgs sSGone) (defBody sSGone) (defScope sSGone) .none kV29 dc29 pm29 an29 cd29 ct29), sl29⟩)
    (c29 : PySem.W.codeIn K cd29 "Gone.__str__" = true) (k29 : PySem.W.keepIn K (.ref f29) = true)
    (xiGone : PySem.W.excIn K CGone bmV "ValueError.__new__" = true)
    (kcGone : PySem.W.keepIn K (.ref CGone) = true)
    (hdGone : PySem.W.hasDictIn K CGone = true)
    (obGone : PySem.W.mroIn K CGone (.type "object") = some true)
    (gaGone : PySem.W.findIn K (.ref CGone) "__getattribute__" = some (some (.builtin "BaseException.__getattribute__")))
    (gnGone : PySem.W.findIn K (.ref CGone) "__getattr__" = some none)
    (beGone : PySem.W.mroIn K CGone (.type "BaseException") = some true)
    (haGone : PySem.W.findIn K (.ref CGone) "__class__" = some (some (.builtin "object.__class__")))
    (aCStale : PySem.W.nsIn K mainGlobals "Stale" = some (some (.ref CStale)))
    (a30 : PySem.W.findIn K (.ref CStale) "__str__" = some (some (.ref f30))) (i30 : PySem.W.isFn K (.ref f30) = true)
    (l30 : K.lookup f30 = some ⟨oc30, od30, .func (PySem.W.fnOf "__str__" "Stale.__str__" (defArgs sSStale) (defBody sSStale) (defScope sSStale) .none kV30 dc30 pm30 an30 cd30 ct30), sl30⟩)
    (c30 : PySem.W.codeIn K cd30 "Stale.__str__" = true) (k30 : PySem.W.keepIn K (.ref f30) = true)
    (xiStale : PySem.W.excIn K CStale bmV "ValueError.__new__" = true)
    (kcStale : PySem.W.keepIn K (.ref CStale) = true)
    (hdStale : PySem.W.hasDictIn K CStale = true)
    (obStale : PySem.W.mroIn K CStale (.type "object") = some true)
    (gaStale : PySem.W.findIn K (.ref CStale) "__getattribute__" = some (some (.builtin "BaseException.__getattribute__")))
    (gnStale : PySem.W.findIn K (.ref CStale) "__getattr__" = some none)
    (beStale : PySem.W.mroIn K CStale (.type "BaseException") = some true)
    (haStale : PySem.W.findIn K (.ref CStale) "__class__" = some (some (.builtin "object.__class__")))
    (aCUnplayed : PySem.W.nsIn K mainGlobals "Unplayed" = some (some (.ref CUnplayed)))
    (a31 : PySem.W.findIn K (.ref CUnplayed) "__str__" = some (some (.ref f31))) (i31 : PySem.W.isFn K (.ref f31) = true)
    (l31 : K.lookup f31 = some ⟨oc31, od31, .func (PySem.W.fnOf "__str__" "Unplayed.__str__" (defArgs sSUnplayed) (defBody sSUnplayed) (defScope sSUnplayed) .none kV31 dc31 pm31 an31 cd31 ct31), sl31⟩)
    (c31 : PySem.W.codeIn K cd31 "Unplayed.__str__" = true) (k31 : PySem.W.keepIn K (.ref f31) = true)
    (xiUnplayed : PySem.W.excIn K CUnplayed bmV "ValueError.__new__" = true)
    (kcUnplayed : PySem.W.keepIn K (.ref CUnplayed) = true)
    (hdUnplayed : PySem.W.hasDictIn K CUnplayed = true)
    (obUnplayed : PySem.W.mroIn K CUnplayed (.type "object") = some true)
    (gaUnplayed : PySem.W.findIn K (.ref CUnplayed) "__getattribute__" = some (some (.builtin "BaseException.__getattribute__")))
    (gnUnplayed : PySem.W.findIn K (.ref CUnplayed) "__getattr__" = some none)
    (beUnplayed : PySem.W.mroIn K CUnplayed (.type "BaseException") = some true)
    (haUnplayed : PySem.W.findIn K (.ref CUnplayed) "__class__" = some (some (.builtin "object.__class__")))
    (aCNotHere : PySem.W.nsIn K mainGlobals "NotHere" = some (some (.ref CNotHere)))
    (a32 : PySem.W.findIn K (.ref CNotHere) "__str__" = some (some (.ref f32))) (i32 : PySem.W.isFn K (.ref f32) = true)
    (l32 : K.lookup f32 = some ⟨oc32, od32, .func (PySem.W.fnOf "__str__" "NotHere.__str__" (defArgs sSNotHere) (defBody sSNotHere) (defScope sSNotHere) .none kV32 dc32 pm32 an32 cd32 ct32), sl32⟩)
    (c32 : PySem.W.codeIn K cd32 "NotHere.__str__" = true) (k32 : PySem.W.keepIn K (.ref f32) = true)
    (xiNotHere : PySem.W.excIn K CNotHere bmV "ValueError.__new__" = true)
    (kcNotHere : PySem.W.keepIn K (.ref CNotHere) = true)
    (hdNotHere : PySem.W.hasDictIn K CNotHere = true)
    (obNotHere : PySem.W.mroIn K CNotHere (.type "object") = some true)
    (gaNotHere : PySem.W.findIn K (.ref CNotHere) "__getattribute__" = some (some (.builtin "BaseException.__getattribute__")))
    (gnNotHere : PySem.W.findIn K (.ref CNotHere) "__getattr__" = some none)
    (beNotHere : PySem.W.mroIn K CNotHere (.type "BaseException") = some true)
    (haNotHere : PySem.W.findIn K (.ref CNotHere) "__class__" = some (some (.builtin "object.__class__")))
    (aCBadLine : PySem.W.nsIn K mainGlobals "BadLine" = some (some (.ref CBadLine)))
    (a33 : PySem.W.findIn K (.ref CBadLine) "__str__" = some (some (.ref f33))) (i33 : PySem.W.isFn K (.ref f33) = true)
    (l33 : K.lookup f33 = some ⟨oc33, od33, .func (PySem.W.fnOf "__str__" "BadLine.__str__" (defArgs sSBadLine) (defBody sSBadLine) (defScope sSBadLine) .none kV33 dc33 pm33 an33 cd33 ct33), sl33⟩)
    (c33 : PySem.W.codeIn K cd33 "BadLine.__str__" = true) (k33 : PySem.W.keepIn K (.ref f33) = true)
    (xiBadLine : PySem.W.excIn K CBadLine bmV "ValueError.__new__" = true)
    (kcBadLine : PySem.W.keepIn K (.ref CBadLine) = true)
    (hdBadLine : PySem.W.hasDictIn K CBadLine = true)
    (obBadLine : PySem.W.mroIn K CBadLine (.type "object") = some true)
    (gaBadLine : PySem.W.findIn K (.ref CBadLine) "__getattribute__" = some (some (.builtin "BaseException.__getattribute__")))
    (gnBadLine : PySem.W.findIn K (.ref CBadLine) "__getattr__" = some none)
    (beBadLine : PySem.W.mroIn K CBadLine (.type "BaseException") = some true)
    (haBadLine : PySem.W.findIn K (.ref CBadLine) "__class__" = some (some (.builtin "object.__class__")))
    (aCUndone : PySem.W.nsIn K mainGlobals "Undone" = some (some (.ref CUndone)))
    (a34 : PySem.W.findIn K (.ref CUndone) "__init__" = some (some (.ref f34))) (i34 : PySem.W.isFn K (.ref f34) = true)
    (l34 : K.lookup f34 = some ⟨oc34, od34, .func (PySem.W.fnOf "__init__" "Undone.__init__" (defArgs sIUndone) (defBody sIUndone) (defScope sIUndone) .none kV34 dc34 pm34 an34 cd34 ct34), sl34⟩)
    (c34 : PySem.W.codeIn K cd34 "Undone.__init__" = true) (k34 : PySem.W.keepIn K (.ref f34) = true)
    (a35 : PySem.W.findIn K (.ref CUndone) "__str__" = some (some (.ref f35))) (i35 : PySem.W.isFn K (.ref f35) = true)
    (l35 : K.lookup f35 = some ⟨oc35, od35, .func (PySem.W.fnOf "__str__" "Undone.__str__" (defArgs sSUndone) (defBody sSUndone) (defScope sSUndone) .none kV35 dc35 pm35 an35 cd35 ct35), sl35⟩)
    (c35 : PySem.W.codeIn K cd35 "Undone.__str__" = true) (k35 : PySem.W.keepIn K (.ref f35) = true)
    (xiUndone : excInI K CUndone f34 bmV "ValueError.__new__" = true)
    (kcUndone : PySem.W.keepIn K (.ref CUndone) = true)
    (hdUndone : PySem.W.hasDictIn K CUndone = true)
    (obUndone : PySem.W.mroIn K CUndone (.type "object") = some true)
    (gaUndone : PySem.W.findIn K (.ref CUndone) "__getattribute__" = some (some (.builtin "BaseException.__getattribute__")))
    (gnUndone : PySem.W.findIn K (.ref CUndone) "__getattr__" = some none)
    (beUndone : PySem.W.mroIn K CUndone (.type "BaseException") = some true)
    (haUndone : PySem.W.findIn K (.ref CUndone) "__class__" = some (some (.builtin "object.__class__")))
    (saUndone : PySem.W.findIn K (.ref CUndone) "__setattr__" = some (some (.builtin "object.__setattr__")))
    (roUndone : roInB K bmV CUndone = true)
    (naUndone0 : PySem.W.findIn K (.ref CUndone) "at" = some none)
    (naUndone1 : PySem.W.findIn K (.ref CUndone) "why" = some none)
    (aCNoFile : PySem.W.nsIn K mainGlobals "NoFile" = some (some (.ref CNoFile)))
    (a36 : PySem.W.findIn K (.ref CNoFile) "__init__" = some (some (.ref f36))) (i36 : PySem.W.isFn K (.ref f36) = true)
    (l36 : K.lookup f36 = some ⟨oc36, od36, .func (PySem.W.fnOf "__init__" "NoFile.__init__" (defArgs sINoFile) (defBody sINoFile) (defScope sINoFile) .none kV36 dc36 pm36 an36 cd36 ct36), sl36⟩)
    (c36 : PySem.W.codeIn K cd36 "NoFile.__init__" = true) (k36 : PySem.W.keepIn K (.ref f36) = true)
    (a37 : PySem.W.findIn K (.ref CNoFile) "__str__" = some (some (.ref f37))) (i37 : PySem.W.isFn K (.ref f37) = true)
    (l37 : K.lookup f37 = some ⟨oc37, od37, .func (PySem.W.fnOf "__str__" "NoFile.__str__" (defArgs sSNoFile) (defBody sSNoFile) (defScope sSNoFile) .none kV37 dc37 pm37 an37 cd37 ct37), sl37⟩)
    (c37 : PySem.W.codeIn K cd37 "NoFile.__str__" = true) (k37 : PySem.W.keepIn K (.ref f37) = true)
    (xiNoFile : excInI K CNoFile f36 bmL "LookupError.__new__" = true)
    (kcNoFile : PySem.W.keepIn K (.ref CNoFile) = true)
    (hdNoFile : PySem.W.hasDictIn K CNoFile = true)
    (obNoFile : PySem.W.mroIn K CNoFile (.type "object") = some true)
    (gaNoFile : PySem.W.findIn K (.ref CNoFile) "__getattribute__" = some (some (.builtin "BaseException.__getattribute__")))
    (gnNoFile : PySem.W.findIn K (.ref CNoFile) "__getattr__" = some none)
    (beNoFile : PySem.W.mroIn K CNoFile (.type "BaseException") = some true)
    (haNoFile : PySem.W.findIn K (.ref CNoFile) "__class__" = some (some (.builtin "object.__class__")))
    (saNoFile : PySem.W.findIn K (.ref CNoFile) "__setattr__" = some (some (.builtin "object.__setattr__")))
    (roNoFile : roInB K bmL CNoFile = true)
    (naNoFile0 : PySem.W.findIn K (.ref CNoFile) "path" = some none)
    (aCNoFolder : PySem.W.nsIn K mainGlobals "NoFolder" = some (some (.ref CNoFolder)))
    (a38 : PySem.W.findIn K (.ref CNoFolder) "__init__" = some (some (.ref f38))) (i38 : PySem.W.isFn K (.ref f38) = true)
    (l38 : K.lookup f38 = some ⟨oc38, od38, .func (PySem.W.fnOf "__init__" "NoFolder.__init__" (defArgs sINoFolder) (defBody sINoFolder) (defScope sINoFolder) .none kV38 dc38 pm38 an38 cd38 ct38), sl38⟩)
    (c38 : PySem.W.codeIn K cd38 "NoFolder.__init__" = true) (k38 : PySem.W.keepIn K (.ref f38) = true)
    (a39 : PySem.W.findIn K (.ref CNoFolder) "__str__" = some (some (.ref f39))) (i39 : PySem.W.isFn K (.ref f39) = true)
    (l39 : K.lookup f39 = some ⟨oc39, od39, .func (PySem.W.fnOf "__str__" "NoFolder.__str__" (defArgs sSNoFolder) (defBody sSNoFolder) (defScope sSNoFolder) .none kV39 dc39 pm39 an39 cd39 ct39), sl39⟩)
    (c39 : PySem.W.codeIn K cd39 "NoFolder.__str__" = true) (k39 : PySem.W.keepIn K (.ref f39) = true)
    (xiNoFolder : excInI K CNoFolder f38 bmL "LookupError.__new__" = true)
    (kcNoFolder : PySem.W.keepIn K (.ref CNoFolder) = true)
    (hdNoFolder : PySem.W.hasDictIn K CNoFolder = true)
    (obNoFolder : PySem.W.mroIn K CNoFolder (.type "object") = some true)
    (gaNoFolder : PySem.W.findIn K (.ref CNoFolder) "__getattribute__" = some (some (.builtin "BaseException.__getattribute__")))
    (gnNoFolder : PySem.W.findIn K (.ref CNoFolder) "__getattr__" = some none)
    (beNoFolder : PySem.W.mroIn K CNoFolder (.type "BaseException") = some true)
    (haNoFolder : PySem.W.findIn K (.ref CNoFolder) "__class__" = some (some (.builtin "object.__class__")))
    (saNoFolder : PySem.W.findIn K (.ref CNoFolder) "__setattr__" = some (some (.builtin "object.__setattr__")))
    (roNoFolder : roInB K bmL CNoFolder = true)
    (naNoFolder0 : PySem.W.findIn K (.ref CNoFolder) "path" = some none)
    (aCNoPledge : PySem.W.nsIn K mainGlobals "NoPledge" = some (some (.ref CNoPledge)))
    (a40 : PySem.W.findIn K (.ref CNoPledge) "__init__" = some (some (.ref f40))) (i40 : PySem.W.isFn K (.ref f40) = true)
    (l40 : K.lookup f40 = some ⟨oc40, od40, .func (PySem.W.fnOf "__init__" "NoPledge.__init__" (defArgs sINoPledge) (defBody sINoPledge) (defScope sINoPledge) .none kV40 dc40 pm40 an40 cd40 ct40), sl40⟩)
    (c40 : PySem.W.codeIn K cd40 "NoPledge.__init__" = true) (k40 : PySem.W.keepIn K (.ref f40) = true)
    (a41 : PySem.W.findIn K (.ref CNoPledge) "__str__" = some (some (.ref f41))) (i41 : PySem.W.isFn K (.ref f41) = true)
    (l41 : K.lookup f41 = some ⟨oc41, od41, .func (PySem.W.fnOf "__str__" "NoPledge.__str__" (defArgs sSNoPledge) (defBody sSNoPledge) (defScope sSNoPledge) .none kV41 dc41 pm41 an41 cd41 ct41), sl41⟩)
    (c41 : PySem.W.codeIn K cd41 "NoPledge.__str__" = true) (k41 : PySem.W.keepIn K (.ref f41) = true)
    (xiNoPledge : excInI K CNoPledge f40 bmK "LookupError.__new__" = true)
    (kcNoPledge : PySem.W.keepIn K (.ref CNoPledge) = true)
    (hdNoPledge : PySem.W.hasDictIn K CNoPledge = true)
    (obNoPledge : PySem.W.mroIn K CNoPledge (.type "object") = some true)
    (gaNoPledge : PySem.W.findIn K (.ref CNoPledge) "__getattribute__" = some (some (.builtin "BaseException.__getattribute__")))
    (gnNoPledge : PySem.W.findIn K (.ref CNoPledge) "__getattr__" = some none)
    (beNoPledge : PySem.W.mroIn K CNoPledge (.type "BaseException") = some true)
    (haNoPledge : PySem.W.findIn K (.ref CNoPledge) "__class__" = some (some (.builtin "object.__class__")))
    (saNoPledge : PySem.W.findIn K (.ref CNoPledge) "__setattr__" = some (some (.builtin "object.__setattr__")))
    (roNoPledge : roInB K bmK CNoPledge = true)
    (naNoPledge0 : PySem.W.findIn K (.ref CNoPledge) "ticket" = some none)
    (aCCut : PySem.W.nsIn K mainGlobals "Cut" = some (some (.ref CCut)))
    (a42 : PySem.W.findIn K (.ref CCut) "__str__" = some (some (.ref f42))) (i42 : PySem.W.isFn K (.ref f42) = true)
    (l42 : K.lookup f42 = some ⟨oc42, od42, .func (PySem.W.fnOf "__str__" "Cut.__str__" (defArgs sSCut) (defBody sSCut) (defScope sSCut) .none kV42 dc42 pm42 an42 cd42 ct42), sl42⟩)
    (c42 : PySem.W.codeIn K cd42 "Cut.__str__" = true) (k42 : PySem.W.keepIn K (.ref f42) = true)
    (xiCut : PySem.W.excIn K CCut bmR "RuntimeError.__new__" = true)
    (kcCut : PySem.W.keepIn K (.ref CCut) = true)
    (hdCut : PySem.W.hasDictIn K CCut = true)
    (obCut : PySem.W.mroIn K CCut (.type "object") = some true)
    (gaCut : PySem.W.findIn K (.ref CCut) "__getattribute__" = some (some (.builtin "BaseException.__getattribute__")))
    (gnCut : PySem.W.findIn K (.ref CCut) "__getattr__" = some none)
    (beCut : PySem.W.mroIn K CCut (.type "BaseException") = some true)
    (haCut : PySem.W.findIn K (.ref CCut) "__class__" = some (some (.builtin "object.__class__")))
    (hcG : PySem.W.specialIn K (.builtin "object.__class__") "__get__" = some (some (.builtin "getset_descriptor.__get__")))
    (hcT : PySem.W.takesIn K (.builtin "object.__class__") = some true)
    (r_nr_CT : PySem.W.mroIn K CNoRoom (.ref CStowError) = some true)
    (r_st_CT : PySem.W.mroIn K CStale (.ref CStowError) = some true)
    (r_nd_CT : PySem.W.mroIn K CNoFolder (.ref CStowError) = some false)
    (r_nd_CM : PySem.W.mroIn K CNoFolder (.ref CMissing) = some true)
    (r_nf_CT : PySem.W.mroIn K CNoFile (.ref CStowError) = some false)
    (r_nf_CM : PySem.W.mroIn K CNoFile (.ref CMissing) = some true)
    (r_np_CT : PySem.W.mroIn K CNoPledge (.ref CStowError) = some false)
    (r_np_CM : PySem.W.mroIn K CNoPledge (.ref CMissing) = some false)
    (r_np_cnp : PySem.W.mroIn K CNoPledge (.ref CNoPledge) = some true)
    (k_nr_ValueError : PySem.W.kitOne K (.ref CNoRoom) (.type "ValueError") = some true)
    (k_nr_LookupError : PySem.W.kitOne K (.ref CNoRoom) (.type "LookupError") = some false)
    (k_st_ValueError : PySem.W.kitOne K (.ref CStale) (.type "ValueError") = some true)
    (k_st_LookupError : PySem.W.kitOne K (.ref CStale) (.type "LookupError") = some false)
    (k_nd_LookupError : PySem.W.kitOne K (.ref CNoFolder) (.type "LookupError") = some true)
    (k_nd_KeyError : PySem.W.kitOne K (.ref CNoFolder) (.type "KeyError") = some false)
    (k_nf_LookupError : PySem.W.kitOne K (.ref CNoFile) (.type "LookupError") = some true)
    (k_nf_KeyError : PySem.W.kitOne K (.ref CNoFile) (.type "KeyError") = some false)
    (k_np_KeyError : PySem.W.kitOne K (.ref CNoPledge) (.type "KeyError") = some true)
    (k_np_CM : PySem.W.kitOne K (.ref CNoPledge) (.ref CMissing) = some false)
    (utsh : PySem.W.kitOne K (.ref CShort) (.ref CStowError) = some true)
    (uvsh : PySem.W.kitOne K (.ref CShort) (.type "ValueError") = some true)
    (umsh : PySem.W.kitOne K (.ref CShort) (.ref CMissing) = some false)
    (utbs : PySem.W.kitOne K (.ref CBadSize) (.ref CStowError) = some true)
    (uvbs : PySem.W.kitOne K (.ref CBadSize) (.type "ValueError") = some true)
    (umbs : PySem.W.kitOne K (.ref CBadSize) (.ref CMissing) = some false)
    (uttk : PySem.W.kitOne K (.ref CTaken) (.ref CStowError) = some true)
    (uvtk : PySem.W.kitOne K (.ref CTaken) (.type "ValueError") = some true)
    (umtk : PySem.W.kitOne K (.ref CTaken) (.ref CMissing) = some false)
    (utgo : PySem.W.kitOne K (.ref CGraceOver) (.ref CStowError) = some true)
    (uvgo : PySem.W.kitOne K (.ref CGraceOver) (.type "ValueError") = some true)
    (umgo : PySem.W.kitOne K (.ref CGraceOver) (.ref CMissing) = some false)
    (utdr : PySem.W.kitOne K (.ref CDry) (.ref CStowError) = some true)
    (uvdr : PySem.W.kitOne K (.ref CDry) (.type "ValueError") = some true)
    (umdr : PySem.W.kitOne K (.ref CDry) (.ref CMissing) = some false)
    (utun : PySem.W.kitOne K (.ref CUndone) (.ref CStowError) = some true)
    (uvun : PySem.W.kitOne K (.ref CUndone) (.type "ValueError") = some true)
    (umun : PySem.W.kitOne K (.ref CUndone) (.ref CMissing) = some false)
    (utcr : PySem.W.kitOne K (.ref CCrowded) (.ref CStowError) = some true)
    (uvcr : PySem.W.kitOne K (.ref CCrowded) (.type "ValueError") = some true)
    (umcr : PySem.W.kitOne K (.ref CCrowded) (.ref CMissing) = some false)
    (utne : PySem.W.kitOne K (.ref CNotEmpty) (.ref CStowError) = some true)
    (uvne : PySem.W.kitOne K (.ref CNotEmpty) (.type "ValueError") = some true)
    (umne : PySem.W.kitOne K (.ref CNotEmpty) (.ref CMissing) = some false)
    (utus : PySem.W.kitOne K (.ref CUnsettled) (.ref CStowError) = some true)
    (uvus : PySem.W.kitOne K (.ref CUnsettled) (.type "ValueError") = some true)
    (umus : PySem.W.kitOne K (.ref CUnsettled) (.ref CMissing) = some false)
    (utol : PySem.W.kitOne K (.ref COverLimit) (.ref CStowError) = some true)
    (uvol : PySem.W.kitOne K (.ref COverLimit) (.type "ValueError") = some true)
    (umol : PySem.W.kitOne K (.ref COverLimit) (.ref CMissing) = some false)
    (utgn : PySem.W.kitOne K (.ref CGone) (.ref CStowError) = some true)
    (uvgn : PySem.W.kitOne K (.ref CGone) (.type "ValueError") = some true)
    (umgn : PySem.W.kitOne K (.ref CGone) (.ref CMissing) = some false)
    (utbl : PySem.W.kitOne K (.ref CBadLine) (.ref CStowError) = some true)
    (uvbl : PySem.W.kitOne K (.ref CBadLine) (.type "ValueError") = some true)
    (umbl : PySem.W.kitOne K (.ref CBadLine) (.ref CMissing) = some false)
    (utup : PySem.W.kitOne K (.ref CUnplayed) (.ref CStowError) = some true)
    (uvup : PySem.W.kitOne K (.ref CUnplayed) (.type "ValueError") = some true)
    (umup : PySem.W.kitOne K (.ref CUnplayed) (.ref CMissing) = some false)
    (utnh : PySem.W.kitOne K (.ref CNotHere) (.ref CStowError) = some true)
    (uvnh : PySem.W.kitOne K (.ref CNotHere) (.type "ValueError") = some true)
    (umnh : PySem.W.kitOne K (.ref CNotHere) (.ref CMissing) = some false)
    (utst : PySem.W.kitOne K (.ref CStale) (.ref CStowError) = some true)
    (uvst : PySem.W.kitOne K (.ref CStale) (.type "ValueError") = some true)
    (umst : PySem.W.kitOne K (.ref CStale) (.ref CMissing) = some false)
    (kk1 : PySem.W.kitOne K (.ref CCut) (.type "RuntimeError") = some true)
    (kk2 : PySem.W.kitOne K (.ref CCut) (.type "ValueError") = some false)
    (kk3 : PySem.W.kitOne K (.ref CNoPledge) (.type "ValueError") = some false)
    (a43 : PySem.W.nsIn K mainGlobals "_law_bag" = some (some (.ref f43)))
    (l43 : K.lookup f43 = some ⟨oc43, od43, .func (PySem.W.fnOf "_law_bag" "_law_bag" (defArgs sBag) (defBody sBag) (defScope sBag) .none kV43 dc43 pm43 an43 cd43 ct43), sl43⟩)
    (c43 : PySem.W.codeIn K cd43 "_law_bag" = true) (k43 : PySem.W.keepIn K (.ref f43) = true)
    (a44 : PySem.W.nsIn K mainGlobals "_law_pull" = some (some (.ref f44)))
    (l44 : K.lookup f44 = some ⟨oc44, od44, .func (PySem.W.fnOf "_law_pull" "_law_pull" (defArgs sPull) (defBody sPull) (defScope sPull) .none kV44 dc44 pm44 an44 cd44 ct44), sl44⟩)
    (c44 : PySem.W.codeIn K cd44 "_law_pull" = true) (k44 : PySem.W.keepIn K (.ref f44) = true)
    (a45 : PySem.W.nsIn K mainGlobals "_law_sign" = some (some (.ref f45)))
    (l45 : K.lookup f45 = some ⟨oc45, od45, .func (PySem.W.fnOf "_law_sign" "_law_sign" (defArgs sSign) (defBody sSign) (defScope sSign) .none kV45 dc45 pm45 an45 cd45 ct45), sl45⟩)
    (c45 : PySem.W.codeIn K cd45 "_law_sign" = true) (k45 : PySem.W.keepIn K (.ref f45) = true)
    (a46 : PySem.W.nsIn K mainGlobals "_law_name" = some (some (.ref f46)))
    (l46 : K.lookup f46 = some ⟨oc46, od46, .func (PySem.W.fnOf "_law_name" "_law_name" (defArgs sName) (defBody sName) (defScope sName) .none kV46 dc46 pm46 an46 cd46 ct46), sl46⟩)
    (c46 : PySem.W.codeIn K cd46 "_law_name" = true) (k46 : PySem.W.keepIn K (.ref f46) = true)
    (a47 : PySem.W.nsIn K mainGlobals "_law_error" = some (some (.ref f47)))
    (l47 : K.lookup f47 = some ⟨oc47, od47, .func (PySem.W.fnOf "_law_error" "_law_error" (defArgs sErr) (defBody sErr) (defScope sErr) .none kV47 dc47 pm47 an47 cd47 ct47), sl47⟩)
    (c47 : PySem.W.codeIn K cd47 "_law_error" = true) (k47 : PySem.W.keepIn K (.ref f47) = true)
    (a48 : PySem.W.nsIn K mainGlobals "_law_fields" = some (some (.ref f48)))
    (l48 : K.lookup f48 = some ⟨oc48, od48, .func (PySem.W.fnOf "_law_fields" "_law_fields" (defArgs sFie) (defBody sFie) (defScope sFie) .none kV48 dc48 pm48 an48 cd48 ct48), sl48⟩)
    (c48 : PySem.W.codeIn K cd48 "_law_fields" = true) (k48 : PySem.W.keepIn K (.ref f48) = true)
    (a49 : PySem.W.nsIn K mainGlobals "_law_texts" = some (some (.ref f49)))
    (l49 : K.lookup f49 = some ⟨oc49, od49, .func (PySem.W.fnOf "_law_texts" "_law_texts" (defArgs sTex) (defBody sTex) (defScope sTex) .none kV49 dc49 pm49 an49 cd49 ct49), sl49⟩)
    (c49 : PySem.W.codeIn K cd49 "_law_texts" = true) (k49 : PySem.W.keepIn K (.ref f49) = true)
    (a50 : PySem.W.nsIn K mainGlobals "_law_taken" = some (some (.ref f50)))
    (l50 : K.lookup f50 = some ⟨oc50, od50, .func (PySem.W.fnOf "_law_taken" "_law_taken" (defArgs sTak) (defBody sTak) (defScope sTak) .none kV50 dc50 pm50 an50 cd50 ct50), sl50⟩)
    (c50 : PySem.W.codeIn K cd50 "_law_taken" = true) (k50 : PySem.W.keepIn K (.ref f50) = true)
    (a51 : PySem.W.nsIn K mainGlobals "law" = some (some (.ref f51)))
    (l51 : K.lookup f51 = some ⟨oc51, od51, .func (PySem.W.fnOf "law" "law" (defArgs sLaw) (defBody sLaw) (defScope sLaw) .none kV51 dc51 pm51 an51 cd51 ct51), sl51⟩)
    (c51 : PySem.W.codeIn K cd51 "law" = true) (k51 : PySem.W.keepIn K (.ref f51) = true)
    (z1 : PySem.W.nsIn K mainGlobals "len" = some none)
    (z2 : PySem.W.nsIn K mainGlobals "list" = some none)
    (z3 : PySem.W.nsIn K mainGlobals "range" = some none)
    (z4 : PySem.W.nsIn K mainGlobals "isinstance" = some none)
    (z5 : PySem.W.nsIn K mainGlobals "str" = some none)
    (z6 : PySem.W.nsIn K mainGlobals "ValueError" = some none)
    (z7 : PySem.W.nsIn K mainGlobals "LookupError" = some none)
    (z8 : PySem.W.nsIn K mainGlobals "KeyError" = some none)
    (z9 : PySem.W.nsIn K mainGlobals "RuntimeError" = some none)
    : ∃ fd : FuncData, (∀ (s : Shared) (v : Value), BindsTo s fd ⟨[v], []⟩ [("_law_script", v)]) ∧ ∀ base : Heap, K.In base → base.Ns mainGlobals mg → FnOk l.prog w K mg base CX0 7 fa fd ["_law_script"] (spLaw K) := by
  have e := hfa.symm.trans (PySem.W.mg_of X G a51)
  cases e
  have T : Txt K mg := ⟨PySem.W.mg_none_of X G z1, PySem.W.mg_none_of X G z2, PySem.W.mg_none_of X G z3, PySem.W.mg_none_of X G z4, PySem.W.mg_none_of X G z5, PySem.W.mg_none_of X G z6, PySem.W.mg_none_of X G z7, PySem.W.mg_none_of X G z8, PySem.W.mg_none_of X G z9⟩
  have F1 := fun_mk (st := sIShort) l1 c1 k1
  have b1 := F1.binds (ps := ["self", "asked", "there"]) fun _ _ _ _ _ _ us hl => match us, hl with | [_, _, _], _ => rfl
  have F2 := fun_mk (st := sSShort) l2 c2 k2
  have b2 := F2.binds (ps := ["self"]) fun _ _ _ _ _ _ us hl => match us, hl with | [_], _ => rfl
  have F3 := fun_mk (st := sIBadSize) l3 c3 k3
  have b3 := F3.binds (ps := ["self", "size"]) fun _ _ _ _ _ _ us hl => match us, hl with | [_, _], _ => rfl
  have F4 := fun_mk (st := sSBadSize) l4 c4 k4
  have b4 := F4.binds (ps := ["self"]) fun _ _ _ _ _ _ us hl => match us, hl with | [_], _ => rfl
  have F5 := fun_mk (st := sIBadPath) l5 c5 k5
  have b5 := F5.binds (ps := ["self", "path"]) fun _ _ _ _ _ _ us hl => match us, hl with | [_, _], _ => rfl
  have F6 := fun_mk (st := sSBadPath) l6 c6 k6
  have b6 := F6.binds (ps := ["self"]) fun _ _ _ _ _ _ us hl => match us, hl with | [_], _ => rfl
  have F7 := fun_mk (st := sIBadPage) l7 c7 k7
  have b7 := F7.binds (ps := ["self", "page"]) fun _ _ _ _ _ _ us hl => match us, hl with | [_, _], _ => rfl
  have F8 := fun_mk (st := sSBadPage) l8 c8 k8
  have b8 := F8.binds (ps := ["self"]) fun _ _ _ _ _ _ us hl => match us, hl with | [_], _ => rfl
  have F9 := fun_mk (st := sIBadMany) l9 c9 k9
  have b9 := F9.binds (ps := ["self", "many"]) fun _ _ _ _ _ _ us hl => match us, hl with | [_, _], _ => rfl
  have F10 := fun_mk (st := sSBadMany) l10 c10 k10
  have b10 := F10.binds (ps := ["self"]) fun _ _ _ _ _ _ us hl => match us, hl with | [_], _ => rfl
  have F11 := fun_mk (st := sIBadOwner) l11 c11 k11
  have b11 := F11.binds (ps := ["self", "whose"]) fun _ _ _ _ _ _ us hl => match us, hl with | [_, _], _ => rfl
  have F12 := fun_mk (st := sSBadOwner) l12 c12 k12
  have b12 := F12.binds (ps := ["self"]) fun _ _ _ _ _ _ us hl => match us, hl with | [_], _ => rfl
  have F13 := fun_mk (st := sITaken) l13 c13 k13
  have b13 := F13.binds (ps := ["self", "path"]) fun _ _ _ _ _ _ us hl => match us, hl with | [_, _], _ => rfl
  have F14 := fun_mk (st := sSTaken) l14 c14 k14
  have b14 := F14.binds (ps := ["self"]) fun _ _ _ _ _ _ us hl => match us, hl with | [_], _ => rfl
  have F15 := fun_mk (st := sICrowded) l15 c15 k15
  have b15 := F15.binds (ps := ["self", "most"]) fun _ _ _ _ _ _ us hl => match us, hl with | [_, _], _ => rfl
  have F16 := fun_mk (st := sSCrowded) l16 c16 k16
  have b16 := F16.binds (ps := ["self"]) fun _ _ _ _ _ _ us hl => match us, hl with | [_], _ => rfl
  have F17 := fun_mk (st := sINotEmpty) l17 c17 k17
  have b17 := F17.binds (ps := ["self", "path"]) fun _ _ _ _ _ _ us hl => match us, hl with | [_, _], _ => rfl
  have F18 := fun_mk (st := sSNotEmpty) l18 c18 k18
  have b18 := F18.binds (ps := ["self"]) fun _ _ _ _ _ _ us hl => match us, hl with | [_], _ => rfl
  have F19 := fun_mk (st := sIUnsettled) l19 c19 k19
  have b19 := F19.binds (ps := ["self", "path"]) fun _ _ _ _ _ _ us hl => match us, hl with | [_, _], _ => rfl
  have F20 := fun_mk (st := sSUnsettled) l20 c20 k20
  have b20 := F20.binds (ps := ["self"]) fun _ _ _ _ _ _ us hl => match us, hl with | [_], _ => rfl
  have F21 := fun_mk (st := sINoRoom) l21 c21 k21
  have b21 := F21.binds (ps := ["self", "asked", "there", "helps"]) fun _ _ _ _ _ _ us hl => match us, hl with | [_, _, _, _], _ => rfl
  have F22 := fun_mk (st := sSNoRoom) l22 c22 k22
  have b22 := F22.binds (ps := ["self"]) fun _ _ _ _ _ _ us hl => match us, hl with | [_], _ => rfl
  have F23 := fun_mk (st := sIOverLimit) l23 c23 k23
  have b23 := F23.binds (ps := ["self", "whose", "asked", "most"]) fun _ _ _ _ _ _ us hl => match us, hl with | [_, _, _, _], _ => rfl
  have F24 := fun_mk (st := sSOverLimit) l24 c24 k24
  have b24 := F24.binds (ps := ["self"]) fun _ _ _ _ _ _ us hl => match us, hl with | [_], _ => rfl
  have F25 := fun_mk (st := sIGraceOver) l25 c25 k25
  have b25 := F25.binds (ps := ["self", "whose", "began"]) fun _ _ _ _ _ _ us hl => match us, hl with | [_, _, _], _ => rfl
  have F26 := fun_mk (st := sSGraceOver) l26 c26 k26
  have b26 := F26.binds (ps := ["self"]) fun _ _ _ _ _ _ us hl => match us, hl with | [_], _ => rfl
  have F27 := fun_mk (st := sIDry) l27 c27 k27
  have b27 := F27.binds (ps := ["self", "ticket", "asked", "there"]) fun _ _ _ _ _ _ us hl => match us, hl with | [_, _, _, _], _ => rfl
  have F28 := fun_mk (st := sSDry) l28 c28 k28
  have b28 := F28.binds (ps := ["self"]) fun _ _ _ _ _ _ us hl => match us, hl with | [_], _ => rfl
  have F29 := fun_mk (st := sSGone) l29 c29 k29
  have b29 := F29.binds (ps := ["self"]) fun _ _ _ _ _ _ us hl => match us, hl with | [_], _ => rfl
  have F30 := fun_mk (st := sSStale) l30 c30 k30
  have b30 := F30.binds (ps := ["self"]) fun _ _ _ _ _ _ us hl => match us, hl with | [_], _ => rfl
  have F31 := fun_mk (st := sSUnplayed) l31 c31 k31
  have b31 := F31.binds (ps := ["self"]) fun _ _ _ _ _ _ us hl => match us, hl with | [_], _ => rfl
  have F32 := fun_mk (st := sSNotHere) l32 c32 k32
  have b32 := F32.binds (ps := ["self"]) fun _ _ _ _ _ _ us hl => match us, hl with | [_], _ => rfl
  have F33 := fun_mk (st := sSBadLine) l33 c33 k33
  have b33 := F33.binds (ps := ["self"]) fun _ _ _ _ _ _ us hl => match us, hl with | [_], _ => rfl
  have F34 := fun_mk (st := sIUndone) l34 c34 k34
  have b34 := F34.binds (ps := ["self", "at", "why"]) fun _ _ _ _ _ _ us hl => match us, hl with | [_, _, _], _ => rfl
  have F35 := fun_mk (st := sSUndone) l35 c35 k35
  have b35 := F35.binds (ps := ["self"]) fun _ _ _ _ _ _ us hl => match us, hl with | [_], _ => rfl
  have F36 := fun_mk (st := sINoFile) l36 c36 k36
  have b36 := F36.binds (ps := ["self", "path"]) fun _ _ _ _ _ _ us hl => match us, hl with | [_, _], _ => rfl
  have F37 := fun_mk (st := sSNoFile) l37 c37 k37
  have b37 := F37.binds (ps := ["self"]) fun _ _ _ _ _ _ us hl => match us, hl with | [_], _ => rfl
  have F38 := fun_mk (st := sINoFolder) l38 c38 k38
  have b38 := F38.binds (ps := ["self", "path"]) fun _ _ _ _ _ _ us hl => match us, hl with | [_, _], _ => rfl
  have F39 := fun_mk (st := sSNoFolder) l39 c39 k39
  have b39 := F39.binds (ps := ["self"]) fun _ _ _ _ _ _ us hl => match us, hl with | [_], _ => rfl
  have F40 := fun_mk (st := sINoPledge) l40 c40 k40
  have b40 := F40.binds (ps := ["self", "ticket"]) fun _ _ _ _ _ _ us hl => match us, hl with | [_, _], _ => rfl
  have F41 := fun_mk (st := sSNoPledge) l41 c41 k41
  have b41 := F41.binds (ps := ["self"]) fun _ _ _ _ _ _ us hl => match us, hl with | [_], _ => rfl
  have F42 := fun_mk (st := sSCut) l42 c42 k42
  have b42 := F42.binds (ps := ["self"]) fun _ _ _ _ _ _ us hl => match us, hl with | [_], _ => rfl
  have F43 := fun_mk (st := sBag) l43 c43 k43
  have b43 := F43.binds (ps := ["_law_script"]) fun _ _ _ _ _ _ us hl => match us, hl with | [_], _ => rfl
  have m43 := PySem.W.mg_of X G a43
  have F44 := fun_mk (st := sPull) l44 c44 k44
  have b44 := F44.binds (ps := ["_law_bag_here", "_law_top"]) fun _ _ _ _ _ _ us hl => match us, hl with | [_, _], _ => rfl
  have m44 := PySem.W.mg_of X G a44
  have F45 := fun_mk (st := sSign) l45 c45 k45
  have b45 := F45.binds (ps := ["_law_bag_here"]) fun _ _ _ _ _ _ us hl => match us, hl with | [_], _ => rfl
  have m45 := PySem.W.mg_of X G a45
  have F46 := fun_mk (st := sName) l46 c46 k46
  have b46 := F46.binds (ps := ["_law_bag_here", "_law_most"]) fun _ _ _ _ _ _ us hl => match us, hl with | [_, _], _ => rfl
  have m46 := PySem.W.mg_of X G a46
  have F47 := fun_mk (st := sErr) l47 c47 k47
  have b47 := F47.binds (ps := ["_law_e", "_law_name_here", "_law_fields_here"]) fun _ _ _ _ _ _ us hl => match us, hl with | [_, _, _], _ => rfl
  have m47 := PySem.W.mg_of X G a47
  have F48 := fun_mk (st := sFie) l48 c48 k48
  have b48 := F48.binds (ps := ["_law_a", "_law_b", "_law_path"]) fun _ _ _ _ _ _ us hl => match us, hl with | [_, _, _], _ => rfl
  have m48 := PySem.W.mg_of X G a48
  have F49 := fun_mk (st := sTex) l49 c49 k49
  have b49 := F49.binds (ps := ["_law_a", "_law_path"]) fun _ _ _ _ _ _ us hl => match us, hl with | [_, _], _ => rfl
  have m49 := PySem.W.mg_of X G a49
  have F50 := fun_mk (st := sTak) l50 c50 k50
  have b50 := F50.binds (ps := ["_law_kind", "_law_a", "_law_path"]) fun _ _ _ _ _ _ us hl => match us, hl with | [_, _, _], _ => rfl
  have m50 := PySem.W.mg_of X G a50
  have F51 := fun_mk (st := sLaw) l51 c51 k51
  have b51 := F51.binds (ps := ["_law_script"]) fun _ _ _ _ _ _ us hl => match us, hl with | [_], _ => rfl
  have m51 := PySem.W.mg_of X G a51

  exact ⟨PySem.W.fnOf "law" "law" (defArgs sLaw) (defBody sLaw) (defScope sLaw) .none kV51 dc51 pm51 an51 cd51 ct51, fun s v => .of_eq rfl, fun base _ _ => (by
    have oShort : XOwn K CShort ["asked", "there"] := ⟨⟨hdShort, saShort, obShort, roB_of psV roShort⟩, ⟨⟨hdShort, gaShort, gnShort, beShort⟩, haShort, hcG, hcT, obShort⟩, List.forall_mem_cons.mpr ⟨naShort0, List.forall_mem_cons.mpr ⟨naShort1, List.forall_mem_nil _⟩⟩⟩
    have xShort : XF l.prog w K mg base "Short" CShort ["asked", "there"] := ⟨⟨_, _, xmkB PySem.F.excBase_ValueError xiShort i1 kcShort, okIShort F1 oShort, b1⟩, ⟨⟨_, _, okSShort F2 oShort, b2, a2, i2⟩⟩, oShort, PySem.W.mg_of X G aCShort⟩
    have oBadSize : XOwn K CBadSize ["size"] := ⟨⟨hdBadSize, saBadSize, obBadSize, roB_of psV roBadSize⟩, ⟨⟨hdBadSize, gaBadSize, gnBadSize, beBadSize⟩, haBadSize, hcG, hcT, obBadSize⟩, List.forall_mem_cons.mpr ⟨naBadSize0, List.forall_mem_nil _⟩⟩
    have xBadSize : XF l.prog w K mg base "BadSize" CBadSize ["size"] := ⟨⟨_, _, xmkB PySem.F.excBase_ValueError xiBadSize i3 kcBadSize, okIBadSize F3 oBadSize, b3⟩, ⟨⟨_, _, okSBadSize F4 oBadSize, b4, a4, i4⟩⟩, oBadSize, PySem.W.mg_of X G aCBadSize⟩
    have oBadPath : XOwn K CBadPath ["path"] := ⟨⟨hdBadPath, saBadPath, obBadPath, roB_of psV roBadPath⟩, ⟨⟨hdBadPath, gaBadPath, gnBadPath, beBadPath⟩, haBadPath, hcG, hcT, obBadPath⟩, List.forall_mem_cons.mpr ⟨naBadPath0, List.forall_mem_nil _⟩⟩
    have xBadPath : XF l.prog w K mg base "BadPath" CBadPath ["path"] := ⟨⟨_, _, xmkB PySem.F.excBase_ValueError xiBadPath i5 kcBadPath, okIBadPath F5 oBadPath, b5⟩, ⟨⟨_, _, okSBadPath F6 oBadPath, b6, a6, i6⟩⟩, oBadPath, PySem.W.mg_of X G aCBadPath⟩
    have oBadPage : XOwn K CBadPage ["page"] := ⟨⟨hdBadPage, saBadPage, obBadPage, roB_of psV roBadPage⟩, ⟨⟨hdBadPage, gaBadPage, gnBadPage, beBadPage⟩, haBadPage, hcG, hcT, obBadPage⟩, List.forall_mem_cons.mpr ⟨naBadPage0, List.forall_mem_nil _⟩⟩
    have xBadPage : XF l.prog w K mg base "BadPage" CBadPage ["page"] := ⟨⟨_, _, xmkB PySem.F.excBase_ValueError xiBadPage i7 kcBadPage, okIBadPage F7 oBadPage, b7⟩, ⟨⟨_, _, okSBadPage F8 oBadPage, b8, a8, i8⟩⟩, oBadPage, PySem.W.mg_of X G aCBadPage⟩
    have oBadMany : XOwn K CBadMany ["many"] := ⟨⟨hdBadMany, saBadMany, obBadMany, roB_of psV roBadMany⟩, ⟨⟨hdBadMany, gaBadMany, gnBadMany, beBadMany⟩, haBadMany, hcG, hcT, obBadMany⟩, List.forall_mem_cons.mpr ⟨naBadMany0, List.forall_mem_nil _⟩⟩
    have xBadMany : XF l.prog w K mg base "BadMany" CBadMany ["many"] := ⟨⟨_, _, xmkB PySem.F.excBase_ValueError xiBadMany i9 kcBadMany, okIBadMany F9 oBadMany, b9⟩, ⟨⟨_, _, okSBadMany F10 oBadMany, b10, a10, i10⟩⟩, oBadMany, PySem.W.mg_of X G aCBadMany⟩
    have oBadOwner : XOwn K CBadOwner ["whose"] := ⟨⟨hdBadOwner, saBadOwner, obBadOwner, roB_of psV roBadOwner⟩, ⟨⟨hdBadOwner, gaBadOwner, gnBadOwner, beBadOwner⟩, haBadOwner, hcG, hcT, obBadOwner⟩, List.forall_mem_cons.mpr ⟨naBadOwner0, List.forall_mem_nil _⟩⟩
    have xBadOwner : XF l.prog w K mg base "BadOwner" CBadOwner ["whose"] := ⟨⟨_, _, xmkB PySem.F.excBase_ValueError xiBadOwner i11 kcBadOwner, okIBadOwner F11 oBadOwner, b11⟩, ⟨⟨_, _, okSBadOwner F12 oBadOwner, b12, a12, i12⟩⟩, oBadOwner, PySem.W.mg_of X G aCBadOwner⟩
    have oTaken : XOwn K CTaken ["path"] := ⟨⟨hdTaken, saTaken, obTaken, roB_of psV roTaken⟩, ⟨⟨hdTaken, gaTaken, gnTaken, beTaken⟩, haTaken, hcG, hcT, obTaken⟩, List.forall_mem_cons.mpr ⟨naTaken0, List.forall_mem_nil _⟩⟩
    have xTaken : XF l.prog w K mg base "Taken" CTaken ["path"] := ⟨⟨_, _, xmkB PySem.F.excBase_ValueError xiTaken i13 kcTaken, okITaken F13 oTaken, b13⟩, ⟨⟨_, _, okSTaken F14 oTaken, b14, a14, i14⟩⟩, oTaken, PySem.W.mg_of X G aCTaken⟩
    have oCrowded : XOwn K CCrowded ["most"] := ⟨⟨hdCrowded, saCrowded, obCrowded, roB_of psV roCrowded⟩, ⟨⟨hdCrowded, gaCrowded, gnCrowded, beCrowded⟩, haCrowded, hcG, hcT, obCrowded⟩, List.forall_mem_cons.mpr ⟨naCrowded0, List.forall_mem_nil _⟩⟩
    have xCrowded : XF l.prog w K mg base "Crowded" CCrowded ["most"] := ⟨⟨_, _, xmkB PySem.F.excBase_ValueError xiCrowded i15 kcCrowded, okICrowded F15 oCrowded, b15⟩, ⟨⟨_, _, okSCrowded F16 oCrowded, b16, a16, i16⟩⟩, oCrowded, PySem.W.mg_of X G aCCrowded⟩
    have oNotEmpty : XOwn K CNotEmpty ["path"] := ⟨⟨hdNotEmpty, saNotEmpty, obNotEmpty, roB_of psV roNotEmpty⟩, ⟨⟨hdNotEmpty, gaNotEmpty, gnNotEmpty, beNotEmpty⟩, haNotEmpty, hcG, hcT, obNotEmpty⟩, List.forall_mem_cons.mpr ⟨naNotEmpty0, List.forall_mem_nil _⟩⟩
    have xNotEmpty : XF l.prog w K mg base "NotEmpty" CNotEmpty ["path"] := ⟨⟨_, _, xmkB PySem.F.excBase_ValueError xiNotEmpty i17 kcNotEmpty, okINotEmpty F17 oNotEmpty, b17⟩, ⟨⟨_, _, okSNotEmpty F18 oNotEmpty, b18, a18, i18⟩⟩, oNotEmpty, PySem.W.mg_of X G aCNotEmpty⟩
    have oUnsettled : XOwn K CUnsettled ["path"] := ⟨⟨hdUnsettled, saUnsettled, obUnsettled, roB_of psV roUnsettled⟩, ⟨⟨hdUnsettled, gaUnsettled, gnUnsettled, beUnsettled⟩, haUnsettled, hcG, hcT, obUnsettled⟩, List.forall_mem_cons.mpr ⟨naUnsettled0, List.forall_mem_nil _⟩⟩
    have xUnsettled : XF l.prog w K mg base "Unsettled" CUnsettled ["path"] := ⟨⟨_, _, xmkB PySem.F.excBase_ValueError xiUnsettled i19 kcUnsettled, okIUnsettled F19 oUnsettled, b19⟩, ⟨⟨_, _, okSUnsettled F20 oUnsettled, b20, a20, i20⟩⟩, oUnsettled, PySem.W.mg_of X G aCUnsettled⟩
    have oNoRoom : XOwn K CNoRoom ["asked", "there", "helps"] := ⟨⟨hdNoRoom, saNoRoom, obNoRoom, roB_of psV roNoRoom⟩, ⟨⟨hdNoRoom, gaNoRoom, gnNoRoom, beNoRoom⟩, haNoRoom, hcG, hcT, obNoRoom⟩, List.forall_mem_cons.mpr ⟨naNoRoom0, List.forall_mem_cons.mpr ⟨naNoRoom1, List.forall_mem_cons.mpr ⟨naNoRoom2, List.forall_mem_nil _⟩⟩⟩⟩
    have xNoRoom : XF l.prog w K mg base "NoRoom" CNoRoom ["asked", "there", "helps"] := ⟨⟨_, _, xmkB PySem.F.excBase_ValueError xiNoRoom i21 kcNoRoom, okINoRoom F21 oNoRoom, b21⟩, ⟨⟨_, _, okSNoRoom F22 oNoRoom, b22, a22, i22⟩⟩, oNoRoom, PySem.W.mg_of X G aCNoRoom⟩
    have oOverLimit : XOwn K COverLimit ["whose", "asked", "most"] := ⟨⟨hdOverLimit, saOverLimit, obOverLimit, roB_of psV roOverLimit⟩, ⟨⟨hdOverLimit, gaOverLimit, gnOverLimit, beOverLimit⟩, haOverLimit, hcG, hcT, obOverLimit⟩, List.forall_mem_cons.mpr ⟨naOverLimit0, List.forall_mem_cons.mpr ⟨naOverLimit1, List.forall_mem_cons.mpr ⟨naOverLimit2, List.forall_mem_nil _⟩⟩⟩⟩
    have xOverLimit : XF l.prog w K mg base "OverLimit" COverLimit ["whose", "asked", "most"] := ⟨⟨_, _, xmkB PySem.F.excBase_ValueError xiOverLimit i23 kcOverLimit, okIOverLimit F23 oOverLimit, b23⟩, ⟨⟨_, _, okSOverLimit F24 oOverLimit, b24, a24, i24⟩⟩, oOverLimit, PySem.W.mg_of X G aCOverLimit⟩
    have oGraceOver : XOwn K CGraceOver ["whose", "began"] := ⟨⟨hdGraceOver, saGraceOver, obGraceOver, roB_of psV roGraceOver⟩, ⟨⟨hdGraceOver, gaGraceOver, gnGraceOver, beGraceOver⟩, haGraceOver, hcG, hcT, obGraceOver⟩, List.forall_mem_cons.mpr ⟨naGraceOver0, List.forall_mem_cons.mpr ⟨naGraceOver1, List.forall_mem_nil _⟩⟩⟩
    have xGraceOver : XF l.prog w K mg base "GraceOver" CGraceOver ["whose", "began"] := ⟨⟨_, _, xmkB PySem.F.excBase_ValueError xiGraceOver i25 kcGraceOver, okIGraceOver F25 oGraceOver, b25⟩, ⟨⟨_, _, okSGraceOver F26 oGraceOver, b26, a26, i26⟩⟩, oGraceOver, PySem.W.mg_of X G aCGraceOver⟩
    have oDry : XOwn K CDry ["ticket", "asked", "there"] := ⟨⟨hdDry, saDry, obDry, roB_of psV roDry⟩, ⟨⟨hdDry, gaDry, gnDry, beDry⟩, haDry, hcG, hcT, obDry⟩, List.forall_mem_cons.mpr ⟨naDry0, List.forall_mem_cons.mpr ⟨naDry1, List.forall_mem_cons.mpr ⟨naDry2, List.forall_mem_nil _⟩⟩⟩⟩
    have xDry : XF l.prog w K mg base "Dry" CDry ["ticket", "asked", "there"] := ⟨⟨_, _, xmkB PySem.F.excBase_ValueError xiDry i27 kcDry, okIDry F27 oDry, b27⟩, ⟨⟨_, _, okSDry F28 oDry, b28, a28, i28⟩⟩, oDry, PySem.W.mg_of X G aCDry⟩
    have xGone : XF0 l.prog w K mg base "Gone" CGone := ⟨xmk0B PySem.F.excBase_ValueError xiGone kcGone, ⟨⟨_, _, okSGone F29, b29, a29, i29⟩⟩, ⟨⟨hdGone, gaGone, gnGone, beGone⟩, haGone, hcG, hcT, obGone⟩, PySem.W.mg_of X G aCGone⟩
    have xStale : XF0 l.prog w K mg base "Stale" CStale := ⟨xmk0B PySem.F.excBase_ValueError xiStale kcStale, ⟨⟨_, _, okSStale F30, b30, a30, i30⟩⟩, ⟨⟨hdStale, gaStale, gnStale, beStale⟩, haStale, hcG, hcT, obStale⟩, PySem.W.mg_of X G aCStale⟩
    have xUnplayed : XF0 l.prog w K mg base "Unplayed" CUnplayed := ⟨xmk0B PySem.F.excBase_ValueError xiUnplayed kcUnplayed, ⟨⟨_, _, okSUnplayed F31, b31, a31, i31⟩⟩, ⟨⟨hdUnplayed, gaUnplayed, gnUnplayed, beUnplayed⟩, haUnplayed, hcG, hcT, obUnplayed⟩, PySem.W.mg_of X G aCUnplayed⟩
    have xNotHere : XF0 l.prog w K mg base "NotHere" CNotHere := ⟨xmk0B PySem.F.excBase_ValueError xiNotHere kcNotHere, ⟨⟨_, _, okSNotHere F32, b32, a32, i32⟩⟩, ⟨⟨hdNotHere, gaNotHere, gnNotHere, beNotHere⟩, haNotHere, hcG, hcT, obNotHere⟩, PySem.W.mg_of X G aCNotHere⟩
    have xBadLine : XF0 l.prog w K mg base "BadLine" CBadLine := ⟨xmk0B PySem.F.excBase_ValueError xiBadLine kcBadLine, ⟨⟨_, _, okSBadLine F33, b33, a33, i33⟩⟩, ⟨⟨hdBadLine, gaBadLine, gnBadLine, beBadLine⟩, haBadLine, hcG, hcT, obBadLine⟩, PySem.W.mg_of X G aCBadLine⟩
    have oUndone : XOwn K CUndone ["at", "why"] := ⟨⟨hdUndone, saUndone, obUndone, roB_of psV roUndone⟩, ⟨⟨hdUndone, gaUndone, gnUndone, beUndone⟩, haUndone, hcG, hcT, obUndone⟩, List.forall_mem_cons.mpr ⟨naUndone0, List.forall_mem_cons.mpr ⟨naUndone1, List.forall_mem_nil _⟩⟩⟩
    have xUndone : XF l.prog w K mg base "Undone" CUndone ["at", "why"] := ⟨⟨_, _, xmkB PySem.F.excBase_ValueError xiUndone i34 kcUndone, okIUndone F34 oUndone, b34⟩, ⟨⟨_, _, okSUndone F35 oUndone, b35, a35, i35⟩⟩, oUndone, PySem.W.mg_of X G aCUndone⟩
    have oNoFile : XOwn K CNoFile ["path"] := ⟨⟨hdNoFile, saNoFile, obNoFile, roB_of psL roNoFile⟩, ⟨⟨hdNoFile, gaNoFile, gnNoFile, beNoFile⟩, haNoFile, hcG, hcT, obNoFile⟩, List.forall_mem_cons.mpr ⟨naNoFile0, List.forall_mem_nil _⟩⟩
    have xNoFile : XF l.prog w K mg base "NoFile" CNoFile ["path"] := ⟨⟨_, _, xmkB PySem.F.excBase_LookupError xiNoFile i36 kcNoFile, okINoFile F36 oNoFile, b36⟩, ⟨⟨_, _, okSNoFile F37 oNoFile, b37, a37, i37⟩⟩, oNoFile, PySem.W.mg_of X G aCNoFile⟩
    have oNoFolder : XOwn K CNoFolder ["path"] := ⟨⟨hdNoFolder, saNoFolder, obNoFolder, roB_of psL roNoFolder⟩, ⟨⟨hdNoFolder, gaNoFolder, gnNoFolder, beNoFolder⟩, haNoFolder, hcG, hcT, obNoFolder⟩, List.forall_mem_cons.mpr ⟨naNoFolder0, List.forall_mem_nil _⟩⟩
    have xNoFolder : XF l.prog w K mg base "NoFolder" CNoFolder ["path"] := ⟨⟨_, _, xmkB PySem.F.excBase_LookupError xiNoFolder i38 kcNoFolder, okINoFolder F38 oNoFolder, b38⟩, ⟨⟨_, _, okSNoFolder F39 oNoFolder, b39, a39, i39⟩⟩, oNoFolder, PySem.W.mg_of X G aCNoFolder⟩
    have oNoPledge : XOwn K CNoPledge ["ticket"] := ⟨⟨hdNoPledge, saNoPledge, obNoPledge, roB_of psK roNoPledge⟩, ⟨⟨hdNoPledge, gaNoPledge, gnNoPledge, beNoPledge⟩, haNoPledge, hcG, hcT, obNoPledge⟩, List.forall_mem_cons.mpr ⟨naNoPledge0, List.forall_mem_nil _⟩⟩
    have xNoPledge : XF l.prog w K mg base "NoPledge" CNoPledge ["ticket"] := ⟨⟨_, _, xmkK xiNoPledge i40 kcNoPledge, okINoPledge F40 oNoPledge, b40⟩, ⟨⟨_, _, okSNoPledge F41 oNoPledge, b41, a41, i41⟩⟩, oNoPledge, PySem.W.mg_of X G aCNoPledge⟩
    have xCut : XF0 l.prog w K mg base "Cut" CCut := ⟨xmk0B PySem.F.excBase_RuntimeError xiCut kcCut, ⟨⟨_, _, okSCut F42, b42, a42, i42⟩⟩, ⟨⟨hdCut, gaCut, gnCut, beCut⟩, haCut, hcG, hcT, obCut⟩, PySem.W.mg_of X G aCCut⟩
    have eA : ErrA l.prog w K mg base CNoRoom COverLimit CGraceOver CDry CShort CUndone := ⟨xNoRoom, xOverLimit, xGraceOver, xDry, xShort, xUndone⟩
    have eB : ErrB l.prog w K mg base CBadSize CBadPage CBadMany CBadOwner CCrowded CNoPledge CBadPath CTaken CNotEmpty CUnsettled CNoFile CNoFolder CGone CStale CUnplayed CNotHere CBadLine CCut := ⟨xBadSize, xBadPage, xBadMany, xBadOwner, xCrowded, xNoPledge, xBadPath, xTaken, xNotEmpty, xUnsettled, xNoFile, xNoFolder, xGone, xStale, xUnplayed, xNotHere, xBadLine, xCut⟩
    have eC : ErrC l.prog w K mg base CNoRoom CNoFolder CNoPledge CStale CNoFile CStowError CMissing := ⟨xNoRoom, xNoFolder, xNoPledge, xStale, xNoFile, PySem.W.mg_of X G aCStowError, PySem.W.mg_of X G aCMissing, ecStowError, ecMissing, r_nr_CT, r_st_CT, r_nd_CT, r_nd_CM, r_nf_CT, r_nf_CM, r_np_CT, r_np_CM, r_np_cnp, k_nr_ValueError, k_nr_LookupError, k_st_ValueError, k_st_LookupError, k_nd_LookupError, k_nd_KeyError, k_nf_LookupError, k_nf_KeyError, k_np_KeyError, k_np_CM⟩
    have eD : ErrD l.prog w K mg base CShort CBadSize CTaken CGraceOver CDry CUndone CCrowded CNotEmpty CUnsettled COverLimit CNoPledge CGone CBadLine CUnplayed CNotHere CStale CCut CStowError CMissing := ⟨xShort, xBadSize, xTaken, xGraceOver, xDry, xUndone, xCrowded, xNotEmpty, xUnsettled, xOverLimit, xNoPledge, xGone, xBadLine, xUnplayed, xNotHere, xStale, xCut, PySem.W.mg_of X G aCStowError, PySem.W.mg_of X G aCMissing, ⟨xShort.own.is, utsh, uvsh, umsh⟩, ⟨xBadSize.own.is, utbs, uvbs, umbs⟩, ⟨xTaken.own.is, uttk, uvtk, umtk⟩, ⟨xGraceOver.own.is, utgo, uvgo, umgo⟩, ⟨xDry.own.is, utdr, uvdr, umdr⟩, ⟨xUndone.own.is, utun, uvun, umun⟩, ⟨xCrowded.own.is, utcr, uvcr, umcr⟩, ⟨xNotEmpty.own.is, utne, uvne, umne⟩, ⟨xUnsettled.own.is, utus, uvus, umus⟩, ⟨xOverLimit.own.is, utol, uvol, umol⟩, ⟨xGone.is, utgn, uvgn, umgn⟩, ⟨xBadLine.is, utbl, uvbl, umbl⟩, ⟨xUnplayed.is, utup, uvup, umup⟩, ⟨xNotHere.is, utnh, uvnh, umnh⟩, ⟨xStale.is, utst, uvst, umst⟩, kk1, kk2, kk3⟩
    have hP : Has l.prog w K mg base 1 "_law_pull" ["_law_bag_here", "_law_top"] spPull := ⟨_, _, ok_pull F44 T, m44, k44, b44⟩
    have hS : Has l.prog w K mg base 2 "_law_sign" ["_law_bag_here"] spSign := ⟨_, _, ok_sign F45 T hP, m45, k45, b45⟩
    have hE : Has l.prog w K mg base 4 "_law_error" ["_law_e", "_law_name_here", "_law_fields_here"] (spErrT l.prog w K mg base) := ⟨_, _, ok_error F47 T, m47, k47, b47⟩
    exact ok_law F51 T eD ⟨_, _, ok_bag F43 T, m43, k43, b43⟩ hP ⟨_, _, ok_name F46 T hP hS, m46, k46, b46⟩ ⟨_, _, ok_fie F48 T eA hE, m48, k48, b48⟩ ⟨_, _, ok_tex F49 T eB, m49, k49, b49⟩ ⟨_, _, ok_tak F50 T eC, m50, k50, b50⟩)⟩
theorem walk {l : PySem.W.OpenLaw} {q : Program} {loose : List Str} {XP : (Str → Option Value) → Heap → Prop} {YP : World → Heap → Prop} {d : DefRec} {K : Params → PySem.W.Frag} (hn : l.most = some 63) (hdf : d.params.defaults = [])
    (hY : ∀ (w : World) (h : Heap), YP w h → (K w.params).In h)
    (F : ∀ (w : World) (mg : Str → Option Value) (fa : Addr) (h : Heap), (K w.params).In h → h.Ns mainGlobals mg → mg d.name = some (.ref fa) →
      ∃ fd : FuncData, (∀ (s : Shared) (u : Value), BindsTo s fd ⟨[u], []⟩ [("_law_script", u)]) ∧ ∀ base : Heap, (K w.params).In base → base.Ns mainGlobals mg → FnOk l.prog w (K w.params) mg base CX0 7 fa fd ["_law_script"] (spLaw (K w.params))) :
    PySem.W.WalkO q loose XP YP l.row.toRowW d [] (fun f vs => PySem.call f vs) :=
  L2.walk_of (n := 63) (k := 7) (x := "_law_script") (CX := fun _ => CX0) (sp := fun w => spLaw (K w.params)) hn (by decide) hdf ⟨rfl, by decide, by decide⟩ hY F (fun _ _ a ns hl _ hS => ⟨a, ns, rfl, hS, hl, fun _ => rfl⟩) fun _ _ _ _ _ z => z
end K21
open PySem PySem.W PyProof.Rows
set_option maxRecDepth 100000 in
set_option maxHeartbeats 0 in
theorem PySem.Challenge.cw_latestow_k21_each_refusal_holds : PySem.Challenge.rw_latestow_k21_each_refusal.Holds := by
  w_on; o_law; k_head; (case hw => w_witness2)
  k_fill
  refine K21.walk (l := PySem.Challenge.rw_latestow_k21_each_refusal) rfl rfl (fun w h Y => PySem.W.kIn_of Y) ?F
  case F =>
    intro w mg fa h KX G hmg
    refine' K21.all_mk KX G hmg ?aCStowError ?ecStowError ?aCMissing ?ecMissing ?aCShort ?a1 ?i1 ?l1 ?c1 ?k1 ?a2 ?i2 ?l2 ?c2 ?k2 ?xiShort ?kcShort ?hdShort ?obShort ?gaShort ?gnShort ?beShort ?haShort ?saShort ?roShort ?naShort0 ?naShort1 ?aCBadSize ?a3 ?i3 ?l3 ?c3 ?k3 ?a4 ?i4 ?l4 ?c4 ?k4 ?xiBadSize ?kcBadSize ?hdBadSize ?obBadSize ?gaBadSize ?gnBadSize ?beBadSize ?haBadSize ?saBadSize ?roBadSize ?naBadSize0 ?aCBadPath ?a5 ?i5 ?l5 ?c5 ?k5 ?a6 ?i6 ?l6 ?c6 ?k6 ?xiBadPath ?kcBadPath ?hdBadPath ?obBadPath ?gaBadPath ?gnBadPath ?beBadPath ?haBadPath ?saBadPath ?roBadPath ?naBadPath0 ?aCBadPage ?a7 ?i7 ?l7 ?c7 ?k7 ?a8 ?i8 ?l8 ?c8 ?k8 ?xiBadPage ?kcBadPage ?hdBadPage ?obBadPage ?gaBadPage ?gnBadPage ?beBadPage ?haBadPage ?saBadPage ?roBadPage ?naBadPage0 ?aCBadMany ?a9 ?i9 ?l9 ?c9 ?k9 ?a10 ?i10 ?l10 ?c10 ?k10 ?xiBadMany ?kcBadMany ?hdBadMany ?obBadMany ?gaBadMany ?gnBadMany ?beBadMany ?haBadMany ?saBadMany ?roBadMany ?naBadMany0 ?aCBadOwner ?a11 ?i11 ?l11 ?c11 ?k11 ?a12 ?i12 ?l12 ?c12 ?k12 ?xiBadOwner ?kcBadOwner ?hdBadOwner ?obBadOwner ?gaBadOwner ?gnBadOwner ?beBadOwner ?haBadOwner ?saBadOwner ?roBadOwner ?naBadOwner0 ?aCTaken ?a13 ?i13 ?l13 ?c13 ?k13 ?a14 ?i14 ?l14 ?c14 ?k14 ?xiTaken ?kcTaken ?hdTaken ?obTaken ?gaTaken ?gnTaken ?beTaken ?haTaken ?saTaken ?roTaken ?naTaken0 ?aCCrowded ?a15 ?i15 ?l15 ?c15 ?k15 ?a16 ?i16 ?l16 ?c16 ?k16 ?xiCrowded ?kcCrowded ?hdCrowded ?obCrowded ?gaCrowded ?gnCrowded ?beCrowded ?haCrowded ?saCrowded ?roCrowded ?naCrowded0 ?aCNotEmpty ?a17 ?i17 ?l17 ?c17 ?k17 ?a18 ?i18 ?l18 ?c18 ?k18 ?xiNotEmpty ?kcNotEmpty ?hdNotEmpty ?obNotEmpty ?gaNotEmpty ?gnNotEmpty ?beNotEmpty ?haNotEmpty ?saNotEmpty ?roNotEmpty ?naNotEmpty0 ?aCUnsettled ?a19 ?i19 ?l19 ?c19 ?k19 ?a20 ?i20 ?l20 ?c20 ?k20 ?xiUnsettled ?kcUnsettled ?hdUnsettled ?obUnsettled ?gaUnsettled ?gnUnsettled ?beUnsettled ?haUnsettled ?saUnsettled ?roUnsettled ?naUnsettled0 ?aCNoRoom ?a21 ?i21 ?l21 ?c21 ?k21 ?a22 ?i22 ?l22 ?c22 ?k22 ?xiNoRoom ?kcNoRoom ?hdNoRoom ?obNoRoom ?gaNoRoom ?gnNoRoom ?beNoRoom ?haNoRoom ?saNoRoom ?roNoRoom ?naNoRoom0 ?naNoRoom1 ?naNoRoom2 ?aCOverLimit ?a23 ?i23 ?l23 ?c23 ?k23 ?a24 ?i24 ?l24 ?c24 ?k24 ?xiOverLimit ?kcOverLimit ?hdOverLimit ?obOverLimit ?gaOverLimit ?gnOverLimit ?beOverLimit ?haOverLimit ?saOverLimit ?roOverLimit ?naOverLimit0 ?naOverLimit1 ?naOverLimit2 ?aCGraceOver ?a25 ?i25 ?l25 ?c25 ?k25 ?a26 ?i26 ?l26 ?c26 ?k26 ?xiGraceOver ?kcGraceOver ?hdGraceOver ?obGraceOver ?gaGraceOver ?gnGraceOver ?beGraceOver ?haGraceOver ?saGraceOver ?roGraceOver ?naGraceOver0 ?naGraceOver1 ?aCDry ?a27 ?i27 ?l27 ?c27 ?k27 ?a28 ?i28 ?l28 ?c28 ?k28 ?xiDry ?kcDry ?hdDry ?obDry ?gaDry ?gnDry ?beDry ?haDry ?saDry ?roDry ?naDry0 ?naDry1 ?naDry2 ?aCGone ?a29 ?i29 ?l29 ?c29 ?k29 ?xiGone ?kcGone ?hdGone ?obGone ?gaGone ?gnGone ?beGone ?haGone ?aCStale ?a30 ?i30 ?l30 ?c30 ?k30 ?xiStale ?kcStale ?hdStale ?obStale ?gaStale ?gnStale ?beStale ?haStale ?aCUnplayed ?a31 ?i31 ?l31 ?c31 ?k31 ?xiUnplayed ?kcUnplayed ?hdUnplayed ?obUnplayed ?gaUnplayed ?gnUnplayed ?beUnplayed ?haUnplayed ?aCNotHere ?a32 ?i32 ?l32 ?c32 ?k32 ?xiNotHere ?kcNotHere ?hdNotHere ?obNotHere ?gaNotHere ?gnNotHere ?beNotHere ?haNotHere ?aCBadLine ?a33 ?i33 ?l33 ?c33 ?k33 ?xiBadLine ?kcBadLine ?hdBadLine ?obBadLine ?gaBadLine ?gnBadLine ?beBadLine ?haBadLine ?aCUndone ?a34 ?i34 ?l34 ?c34 ?k34 ?a35 ?i35 ?l35 ?c35 ?k35 ?xiUndone ?kcUndone ?hdUndone ?obUndone ?gaUndone ?gnUndone ?beUndone ?haUndone ?saUndone ?roUndone ?naUndone0 ?naUndone1 ?aCNoFile ?a36 ?i36 ?l36 ?c36 ?k36 ?a37 ?i37 ?l37 ?c37 ?k37 ?xiNoFile ?kcNoFile ?hdNoFile ?obNoFile ?gaNoFile ?gnNoFile ?beNoFile ?haNoFile ?saNoFile ?roNoFile ?naNoFile0 ?aCNoFolder ?a38 ?i38 ?l38 ?c38 ?k38 ?a39 ?i39 ?l39 ?c39 ?k39 ?xiNoFolder ?kcNoFolder ?hdNoFolder ?obNoFolder ?gaNoFolder ?gnNoFolder ?beNoFolder ?haNoFolder ?saNoFolder ?roNoFolder ?naNoFolder0 ?aCNoPledge ?a40 ?i40 ?l40 ?c40 ?k40 ?a41 ?i41 ?l41 ?c41 ?k41 ?xiNoPledge ?kcNoPledge ?hdNoPledge ?obNoPledge ?gaNoPledge ?gnNoPledge ?beNoPledge ?haNoPledge ?saNoPledge ?roNoPledge ?naNoPledge0 ?aCCut ?a42 ?i42 ?l42 ?c42 ?k42 ?xiCut ?kcCut ?hdCut ?obCut ?gaCut ?gnCut ?beCut ?haCut ?hcG ?hcT ?r_nr_CT ?r_st_CT ?r_nd_CT ?r_nd_CM ?r_nf_CT ?r_nf_CM ?r_np_CT ?r_np_CM ?r_np_cnp ?k_nr_ValueError ?k_nr_LookupError ?k_st_ValueError ?k_st_LookupError ?k_nd_LookupError ?k_nd_KeyError ?k_nf_LookupError ?k_nf_KeyError ?k_np_KeyError ?k_np_CM ?utsh ?uvsh ?umsh ?utbs ?uvbs ?umbs ?uttk ?uvtk ?umtk ?utgo ?uvgo ?umgo ?utdr ?uvdr ?umdr ?utun ?uvun ?umun ?utcr ?uvcr ?umcr ?utne ?uvne ?umne ?utus ?uvus ?umus ?utol ?uvol ?umol ?utgn ?uvgn ?umgn ?utbl ?uvbl ?umbl ?utup ?uvup ?umup ?utnh ?uvnh ?umnh ?utst ?uvst ?umst ?kk1 ?kk2 ?kk3 ?a43 ?l43 ?c43 ?k43 ?a44 ?l44 ?c44 ?k44 ?a45 ?l45 ?c45 ?k45 ?a46 ?l46 ?c46 ?k46 ?a47 ?l47 ?c47 ?k47 ?a48 ?l48 ?c48 ?k48 ?a49 ?l49 ?c49 ?k49 ?a50 ?l50 ?c50 ?k50 ?a51 ?l51 ?c51 ?k51 ?z1 ?z2 ?z3 ?z4 ?z5 ?z6 ?z7 ?z8 ?z9
    (case aCStowError => k_is)
    (case ecStowError => kernel_rfl)
    (case aCMissing => k_is)
    (case ecMissing => kernel_rfl)
    (case aCShort => k_is)
    (case a1 => k_is)
    (case i1 => k_is)
    (case l1 => k_is)
    (case c1 => k_is)
    (case k1 => k_is)
    (case a2 => k_is)
    (case i2 => k_is)
    (case l2 => k_is)
    (case c2 => k_is)
    (case k2 => k_is)
    (case xiShort => kernel_rfl)
    (case kcShort => k_is)
    (case hdShort => k_is)
    (case obShort => k_is)
    (case gaShort => k_is)
    (case gnShort => k_is)
    (case beShort => k_is)
    (case haShort => k_is)
    (case saShort => k_is)
    (case roShort => kernel_rfl)
    (case naShort0 => k_is)
    (case naShort1 => k_is)
    (case aCBadSize => k_is)
    (case a3 => k_is)
    (case i3 => k_is)
    (case l3 => k_is)
    (case c3 => k_is)
    (case k3 => k_is)
    (case a4 => k_is)
    (case i4 => k_is)
    (case l4 => k_is)
    (case c4 => k_is)
    (case k4 => k_is)
    (case xiBadSize => kernel_rfl)
    (case kcBadSize => k_is)
    (case hdBadSize => k_is)
    (case obBadSize => k_is)
    (case gaBadSize => k_is)
    (case gnBadSize => k_is)
    (case beBadSize => k_is)
    (case haBadSize => k_is)
    (case saBadSize => k_is)
    (case roBadSize => kernel_rfl)
    (case naBadSize0 => k_is)
    (case aCBadPath => k_is)
    (case a5 => k_is)
    (case i5 => k_is)
    (case l5 => k_is)
    (case c5 => k_is)
    (case k5 => k_is)
    (case a6 => k_is)
    (case i6 => k_is)
    (case l6 => k_is)
    (case c6 => k_is)
    (case k6 => k_is)
    (case xiBadPath => kernel_rfl)
    (case kcBadPath => k_is)
    (case hdBadPath => k_is)
    (case obBadPath => k_is)
    (case gaBadPath => k_is)
    (case gnBadPath => k_is)
    (case beBadPath => k_is)
    (case haBadPath => k_is)
    (case saBadPath => k_is)
    (case roBadPath => kernel_rfl)
    (case naBadPath0 => k_is)
    (case aCBadPage => k_is)
    (case a7 => k_is)
    (case i7 => k_is)
    (case l7 => k_is)
    (case c7 => k_is)
    (case k7 => k_is)
    (case a8 => k_is)
    (case i8 => k_is)
    (case l8 => k_is)
    (case c8 => k_is)
    (case k8 => k_is)
    (case xiBadPage => kernel_rfl)
    (case kcBadPage => k_is)
    (case hdBadPage => k_is)
    (case obBadPage => k_is)
    (case gaBadPage => k_is)
    (case gnBadPage => k_is)
    (case beBadPage => k_is)
    (case haBadPage => k_is)
    (case saBadPage => k_is)
    (case roBadPage => kernel_rfl)
    (case naBadPage0 => k_is)
    (case aCBadMany => k_is)
    (case a9 => k_is)
    (case i9 => k_is)
    (case l9 => k_is)
    (case c9 => k_is)
    (case k9 => k_is)
    (case a10 => k_is)
    (case i10 => k_is)
    (case l10 => k_is)
    (case c10 => k_is)
    (case k10 => k_is)
    (case xiBadMany => kernel_rfl)
    (case kcBadMany => k_is)
    (case hdBadMany => k_is)
    (case obBadMany => k_is)
    (case gaBadMany => k_is)
    (case gnBadMany => k_is)
    (case beBadMany => k_is)
    (case haBadMany => k_is)
    (case saBadMany => k_is)
    (case roBadMany => kernel_rfl)
    (case naBadMany0 => k_is)
    (case aCBadOwner => k_is)
    (case a11 => k_is)
    (case i11 => k_is)
    (case l11 => k_is)
    (case c11 => k_is)
    (case k11 => k_is)
    (case a12 => k_is)
    (case i12 => k_is)
    (case l12 => k_is)
    (case c12 => k_is)
    (case k12 => k_is)
    (case xiBadOwner => kernel_rfl)
    (case kcBadOwner => k_is)
    (case hdBadOwner => k_is)
    (case obBadOwner => k_is)
    (case gaBadOwner => k_is)
    (case gnBadOwner => k_is)
    (case beBadOwner => k_is)
    (case haBadOwner => k_is)
    (case saBadOwner => k_is)
    (case roBadOwner => kernel_rfl)
    (case naBadOwner0 => k_is)
    (case aCTaken => k_is)
    (case a13 => k_is)
    (case i13 => k_is)
    (case l13 => k_is)
    (case c13 => k_is)
    (case k13 => k_is)
    (case a14 => k_is)
    (case i14 => k_is)
    (case l14 => k_is)
    (case c14 => k_is)
    (case k14 => k_is)
    (case xiTaken => kernel_rfl)
    (case kcTaken => k_is)
    (case hdTaken => k_is)
    (case obTaken => k_is)
    (case gaTaken => k_is)
    (case gnTaken => k_is)
    (case beTaken => k_is)
    (case haTaken => k_is)
    (case saTaken => k_is)
    (case roTaken => kernel_rfl)
    (case naTaken0 => k_is)
    (case aCCrowded => k_is)
    (case a15 => k_is)
    (case i15 => k_is)
    (case l15 => k_is)
    (case c15 => k_is)
    (case k15 => k_is)
    (case a16 => k_is)
    (case i16 => k_is)
    (case l16 => k_is)
    (case c16 => k_is)
    (case k16 => k_is)
    (case xiCrowded => kernel_rfl)
    (case kcCrowded => k_is)
    (case hdCrowded => k_is)
    (case obCrowded => k_is)
    (case gaCrowded => k_is)
    (case gnCrowded => k_is)
    (case beCrowded => k_is)
    (case haCrowded => k_is)
    (case saCrowded => k_is)
    (case roCrowded => kernel_rfl)
    (case naCrowded0 => k_is)
    (case aCNotEmpty => k_is)
    (case a17 => k_is)
    (case i17 => k_is)
    (case l17 => k_is)
    (case c17 => k_is)
    (case k17 => k_is)
    (case a18 => k_is)
    (case i18 => k_is)
    (case l18 => k_is)
    (case c18 => k_is)
    (case k18 => k_is)
    (case xiNotEmpty => kernel_rfl)
    (case kcNotEmpty => k_is)
    (case hdNotEmpty => k_is)
    (case obNotEmpty => k_is)
    (case gaNotEmpty => k_is)
    (case gnNotEmpty => k_is)
    (case beNotEmpty => k_is)
    (case haNotEmpty => k_is)
    (case saNotEmpty => k_is)
    (case roNotEmpty => kernel_rfl)
    (case naNotEmpty0 => k_is)
    (case aCUnsettled => k_is)
    (case a19 => k_is)
    (case i19 => k_is)
    (case l19 => k_is)
    (case c19 => k_is)
    (case k19 => k_is)
    (case a20 => k_is)
    (case i20 => k_is)
    (case l20 => k_is)
    (case c20 => k_is)
    (case k20 => k_is)
    (case xiUnsettled => kernel_rfl)
    (case kcUnsettled => k_is)
    (case hdUnsettled => k_is)
    (case obUnsettled => k_is)
    (case gaUnsettled => k_is)
    (case gnUnsettled => k_is)
    (case beUnsettled => k_is)
    (case haUnsettled => k_is)
    (case saUnsettled => k_is)
    (case roUnsettled => kernel_rfl)
    (case naUnsettled0 => k_is)
    (case aCNoRoom => k_is)
    (case a21 => k_is)
    (case i21 => k_is)
    (case l21 => k_is)
    (case c21 => k_is)
    (case k21 => k_is)
    (case a22 => k_is)
    (case i22 => k_is)
    (case l22 => k_is)
    (case c22 => k_is)
    (case k22 => k_is)
    (case xiNoRoom => kernel_rfl)
    (case kcNoRoom => k_is)
    (case hdNoRoom => k_is)
    (case obNoRoom => k_is)
    (case gaNoRoom => k_is)
    (case gnNoRoom => k_is)
    (case beNoRoom => k_is)
    (case haNoRoom => k_is)
    (case saNoRoom => k_is)
    (case roNoRoom => kernel_rfl)
    (case naNoRoom0 => k_is)
    (case naNoRoom1 => k_is)
    (case naNoRoom2 => k_is)
    (case aCOverLimit => k_is)
    (case a23 => k_is)
    (case i23 => k_is)
    (case l23 => k_is)
    (case c23 => k_is)
    (case k23 => k_is)
    (case a24 => k_is)
    (case i24 => k_is)
    (case l24 => k_is)
    (case c24 => k_is)
    (case k24 => k_is)
    (case xiOverLimit => kernel_rfl)
    (case kcOverLimit => k_is)
    (case hdOverLimit => k_is)
    (case obOverLimit => k_is)
    (case gaOverLimit => k_is)
    (case gnOverLimit => k_is)
    (case beOverLimit => k_is)
    (case haOverLimit => k_is)
    (case saOverLimit => k_is)
    (case roOverLimit => kernel_rfl)
    (case naOverLimit0 => k_is)
    (case naOverLimit1 => k_is)
    (case naOverLimit2 => k_is)
    (case aCGraceOver => k_is)
    (case a25 => k_is)
    (case i25 => k_is)
    (case l25 => k_is)
    (case c25 => k_is)
    (case k25 => k_is)
    (case a26 => k_is)
    (case i26 => k_is)
    (case l26 => k_is)
    (case c26 => k_is)
    (case k26 => k_is)
    (case xiGraceOver => kernel_rfl)
    (case kcGraceOver => k_is)
    (case hdGraceOver => k_is)
    (case obGraceOver => k_is)
    (case gaGraceOver => k_is)
    (case gnGraceOver => k_is)
    (case beGraceOver => k_is)
    (case haGraceOver => k_is)
    (case saGraceOver => k_is)
    (case roGraceOver => kernel_rfl)
    (case naGraceOver0 => k_is)
    (case naGraceOver1 => k_is)
    (case aCDry => k_is)
    (case a27 => k_is)
    (case i27 => k_is)
    (case l27 => k_is)
    (case c27 => k_is)
    (case k27 => k_is)
    (case a28 => k_is)
    (case i28 => k_is)
    (case l28 => k_is)
    (case c28 => k_is)
    (case k28 => k_is)
    (case xiDry => kernel_rfl)
    (case kcDry => k_is)
    (case hdDry => k_is)
    (case obDry => k_is)
    (case gaDry => k_is)
    (case gnDry => k_is)
    (case beDry => k_is)
    (case haDry => k_is)
    (case saDry => k_is)
    (case roDry => kernel_rfl)
    (case naDry0 => k_is)
    (case naDry1 => k_is)
    (case naDry2 => k_is)
    (case aCGone => k_is)
    (case a29 => k_is)
    (case i29 => k_is)
    (case l29 => k_is)
    (case c29 => k_is)
    (case k29 => k_is)
    (case xiGone => kernel_rfl)
    (case kcGone => k_is)
    (case hdGone => k_is)
    (case obGone => k_is)
    (case gaGone => k_is)
    (case gnGone => k_is)
    (case beGone => k_is)
    (case haGone => k_is)
    (case aCStale => k_is)
    (case a30 => k_is)
    (case i30 => k_is)
    (case l30 => k_is)
    (case c30 => k_is)
    (case k30 => k_is)
    (case xiStale => kernel_rfl)
    (case kcStale => k_is)
    (case hdStale => k_is)
    (case obStale => k_is)
    (case gaStale => k_is)
    (case gnStale => k_is)
    (case beStale => k_is)
    (case haStale => k_is)
    (case aCUnplayed => k_is)
    (case a31 => k_is)
    (case i31 => k_is)
    (case l31 => k_is)
    (case c31 => k_is)
    (case k31 => k_is)
    (case xiUnplayed => kernel_rfl)
    (case kcUnplayed => k_is)
    (case hdUnplayed => k_is)
    (case obUnplayed => k_is)
    (case gaUnplayed => k_is)
    (case gnUnplayed => k_is)
    (case beUnplayed => k_is)
    (case haUnplayed => k_is)
    (case aCNotHere => k_is)
    (case a32 => k_is)
    (case i32 => k_is)
    (case l32 => k_is)
    (case c32 => k_is)
    (case k32 => k_is)
    (case xiNotHere => kernel_rfl)
    (case kcNotHere => k_is)
    (case hdNotHere => k_is)
    (case obNotHere => k_is)
    (case gaNotHere => k_is)
    (case gnNotHere => k_is)
    (case beNotHere => k_is)
    (case haNotHere => k_is)
    (case aCBadLine => k_is)
    (case a33 => k_is)
    (case i33 => k_is)
    (case l33 => k_is)
    (case c33 => k_is)
    (case k33 => k_is)
    (case xiBadLine => kernel_rfl)
    (case kcBadLine => k_is)
    (case hdBadLine => k_is)
    (case obBadLine => k_is)
    (case gaBadLine => k_is)
    (case gnBadLine => k_is)
    (case beBadLine => k_is)
    (case haBadLine => k_is)
    (case aCUndone => k_is)
    (case a34 => k_is)
    (case i34 => k_is)
    (case l34 => k_is)
    (case c34 => k_is)
    (case k34 => k_is)
    (case a35 => k_is)
    (case i35 => k_is)
    (case l35 => k_is)
    (case c35 => k_is)
    (case k35 => k_is)
    (case xiUndone => kernel_rfl)
    (case kcUndone => k_is)
    (case hdUndone => k_is)
    (case obUndone => k_is)
    (case gaUndone => k_is)
    (case gnUndone => k_is)
    (case beUndone => k_is)
    (case haUndone => k_is)
    (case saUndone => k_is)
    (case roUndone => kernel_rfl)
    (case naUndone0 => k_is)
    (case naUndone1 => k_is)
    (case aCNoFile => k_is)
    (case a36 => k_is)
    (case i36 => k_is)
    (case l36 => k_is)
    (case c36 => k_is)
    (case k36 => k_is)
    (case a37 => k_is)
    (case i37 => k_is)
    (case l37 => k_is)
    (case c37 => k_is)
    (case k37 => k_is)
    (case xiNoFile => kernel_rfl)
    (case kcNoFile => k_is)
    (case hdNoFile => k_is)
    (case obNoFile => k_is)
    (case gaNoFile => k_is)
    (case gnNoFile => k_is)
    (case beNoFile => k_is)
    (case haNoFile => k_is)
    (case saNoFile => k_is)
    (case roNoFile => kernel_rfl)
    (case naNoFile0 => k_is)
    (case aCNoFolder => k_is)
    (case a38 => k_is)
    (case i38 => k_is)
    (case l38 => k_is)
    (case c38 => k_is)
    (case k38 => k_is)
    (case a39 => k_is)
    (case i39 => k_is)
    (case l39 => k_is)
    (case c39 => k_is)
    (case k39 => k_is)
    (case xiNoFolder => kernel_rfl)
    (case kcNoFolder => k_is)
    (case hdNoFolder => k_is)
    (case obNoFolder => k_is)
    (case gaNoFolder => k_is)
    (case gnNoFolder => k_is)
    (case beNoFolder => k_is)
    (case haNoFolder => k_is)
    (case saNoFolder => k_is)
    (case roNoFolder => kernel_rfl)
    (case naNoFolder0 => k_is)
    (case aCNoPledge => k_is)
    (case a40 => k_is)
    (case i40 => k_is)
    (case l40 => k_is)
    (case c40 => k_is)
    (case k40 => k_is)
    (case a41 => k_is)
    (case i41 => k_is)
    (case l41 => k_is)
    (case c41 => k_is)
    (case k41 => k_is)
    (case xiNoPledge => kernel_rfl)
    (case kcNoPledge => k_is)
    (case hdNoPledge => k_is)
    (case obNoPledge => k_is)
    (case gaNoPledge => k_is)
    (case gnNoPledge => k_is)
    (case beNoPledge => k_is)
    (case haNoPledge => k_is)
    (case saNoPledge => k_is)
    (case roNoPledge => kernel_rfl)
    (case naNoPledge0 => k_is)
    (case aCCut => k_is)
    (case a42 => k_is)
    (case i42 => k_is)
    (case l42 => k_is)
    (case c42 => k_is)
    (case k42 => k_is)
    (case xiCut => kernel_rfl)
    (case kcCut => k_is)
    (case hdCut => k_is)
    (case obCut => k_is)
    (case gaCut => k_is)
    (case gnCut => k_is)
    (case beCut => k_is)
    (case haCut => k_is)
    (case hcG => k_is)
    (case hcT => k_is)
    (case r_nr_CT => k_is)
    (case r_st_CT => k_is)
    (case r_nd_CT => k_is)
    (case r_nd_CM => k_is)
    (case r_nf_CT => k_is)
    (case r_nf_CM => k_is)
    (case r_np_CT => k_is)
    (case r_np_CM => k_is)
    (case r_np_cnp => k_is)
    (case k_nr_ValueError => kit_is)
    (case k_nr_LookupError => kit_is)
    (case k_st_ValueError => kit_is)
    (case k_st_LookupError => kit_is)
    (case k_nd_LookupError => kit_is)
    (case k_nd_KeyError => kit_is)
    (case k_nf_LookupError => kit_is)
    (case k_nf_KeyError => kit_is)
    (case k_np_KeyError => kit_is)
    (case k_np_CM => kit_is)
    (case utsh => kit_is)
    (case uvsh => kit_is)
    (case umsh => kit_is)
    (case utbs => kit_is)
    (case uvbs => kit_is)
    (case umbs => kit_is)
    (case uttk => kit_is)
    (case uvtk => kit_is)
    (case umtk => kit_is)
    (case utgo => kit_is)
    (case uvgo => kit_is)
    (case umgo => kit_is)
    (case utdr => kit_is)
    (case uvdr => kit_is)
    (case umdr => kit_is)
    (case utun => kit_is)
    (case uvun => kit_is)
    (case umun => kit_is)
    (case utcr => kit_is)
    (case uvcr => kit_is)
    (case umcr => kit_is)
    (case utne => kit_is)
    (case uvne => kit_is)
    (case umne => kit_is)
    (case utus => kit_is)
    (case uvus => kit_is)
    (case umus => kit_is)
    (case utol => kit_is)
    (case uvol => kit_is)
    (case umol => kit_is)
    (case utgn => kit_is)
    (case uvgn => kit_is)
    (case umgn => kit_is)
    (case utbl => kit_is)
    (case uvbl => kit_is)
    (case umbl => kit_is)
    (case utup => kit_is)
    (case uvup => kit_is)
    (case umup => kit_is)
    (case utnh => kit_is)
    (case uvnh => kit_is)
    (case umnh => kit_is)
    (case utst => kit_is)
    (case uvst => kit_is)
    (case umst => kit_is)
    (case kk1 => kit_is)
    (case kk2 => kit_is)
    (case kk3 => kit_is)
    (case a43 => k_is)
    (case l43 => k_is)
    (case c43 => k_is)
    (case k43 => k_is)
    (case a44 => k_is)
    (case l44 => k_is)
    (case c44 => k_is)
    (case k44 => k_is)
    (case a45 => k_is)
    (case l45 => k_is)
    (case c45 => k_is)
    (case k45 => k_is)
    (case a46 => k_is)
    (case l46 => k_is)
    (case c46 => k_is)
    (case k46 => k_is)
    (case a47 => k_is)
    (case l47 => k_is)
    (case c47 => k_is)
    (case k47 => k_is)
    (case a48 => k_is)
    (case l48 => k_is)
    (case c48 => k_is)
    (case k48 => k_is)
    (case a49 => k_is)
    (case l49 => k_is)
    (case c49 => k_is)
    (case k49 => k_is)
    (case a50 => k_is)
    (case l50 => k_is)
    (case c50 => k_is)
    (case k50 => k_is)
    (case a51 => k_is)
    (case l51 => k_is)
    (case c51 => k_is)
    (case k51 => k_is)
    (case z1 => k_is)
    (case z2 => k_is)
    (case z3 => k_is)
    (case z4 => k_is)
    (case z5 => k_is)
    (case z6 => k_is)
    (case z7 => k_is)
    (case z8 => k_is)
    (case z9 => k_is)

