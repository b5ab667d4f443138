import PyProof.Rows.All
import Wide.All
import OpenK.AllK
import Wide.FinOn
import Lean
import PyProof.EqAt
import PyProof.EqKinds
import PyProof.TupleCall
import KE.IntBitsLaws
import PySem.Challenge.RW_shelfmark_k07_runs
set_option Elab.async false
set_option linter.all false
set_option maxRecDepth 100000
/-! THE HAND LAYER, for ints, bools, texts, own classes, LISTS and tuples (index, slices, in, append, pop ..), calls, loops. Paste it whole ahead of your own text; what your proof does not reach may be deleted. -/
namespace L2
open PySem PySem.Spec PyProof.Rows

/-- a key: an int or a str -/
abbrev Key := Sum Int Str
def keyIs : Key → Value → Bool
  | .inl k, v => Value.isInt k v
  | .inr x, v => Value.isStrOf x v
def keyH (w : World) : Key → Int
  | .inl k => hashInt k
  | .inr x => hashStr w x
theorem keyIs_shape : ∀ {k : Key} {v : Value}, keyIs k v = true → (∃ i t, k = Sum.inl i ∧ v = Value.int i t) ∨ (∃ x t, k = Sum.inr x ∧ v = Value.str x t)
  | .inl i, v, h => by
    obtain ⟨t, e⟩ := Value.isInt_shape (k := i) (v := v) h
    exact .inl ⟨i, t, rfl, e⟩
  | .inr x, v, h => by
    obtain ⟨t, e⟩ := Value.isStrOf_shape (x := x) (v := v) h
    exact .inr ⟨x, t, rfl, e⟩
theorem key_ll (a b : Int) : decide ((Sum.inl a : Key) = Sum.inl b) = (a == b) := by
  by_cases e : a = b
  · subst e; simp
  · have h : ¬ (Sum.inl a : Key) = Sum.inl b := fun q => e (Sum.inl.inj q)
    rw [decide_eq_false h]
    exact (beq_eq_false_iff_ne.mpr e).symm
theorem key_rr (a b : Str) : decide ((Sum.inr a : Key) = Sum.inr b) = decide (a = b) := by
  by_cases e : a = b
  · subst e; simp
  · have h : ¬ (Sum.inr a : Key) = Sum.inr b := fun q => e (Sum.inr.inj q)
    rw [decide_eq_false h, decide_eq_false e]
theorem key_lr (a : Int) (b : Str) : decide ((Sum.inl a : Key) = Sum.inr b) = false := decide_eq_false (fun q => nomatch q)
theorem key_rl (a : Str) (b : Int) : decide ((Sum.inr a : Key) = Sum.inl b) = false := decide_eq_false (fun q => nomatch q)

def mixKind (prog : Program) (w : World) : PySem.KeyKind prog w Key where
  is := keyIs
  hash := keyH w
  inj := fun v a b ha hb => by
    rcases keyIs_shape ha with ⟨i, t, rfl, rfl⟩ | ⟨x, t, rfl, rfl⟩
    · rcases keyIs_shape hb with ⟨j, u, rfl, e⟩ | ⟨y, u, rfl, e⟩
      · injection e with e1 _; rw [e1]
      · exact nomatch e
    · rcases keyIs_shape hb with ⟨j, u, rfl, e⟩ | ⟨y, u, rfl, e⟩
      · exact nomatch e
      · injection e with e1 _; rw [e1]
  byValue := fun k v h => by
    rcases keyIs_shape h with ⟨i, t, rfl, rfl⟩ | ⟨x, t, rfl, rfl⟩ <;> rfl
  pyHash := fun hv h => by
    rcases keyIs_shape hv with ⟨i, t, rfl, rfl⟩ | ⟨x, t, rfl, rfl⟩
    · exact wpAny_pyHash_int h
    · exact wpAny_pyHash_str h
  eqBool := fun hu hv h => by
    rcases keyIs_shape hu with ⟨i, t, rfl, rfl⟩ | ⟨x, t, rfl, rfl⟩
    · rcases keyIs_shape hv with ⟨j, u, rfl, rfl⟩ | ⟨y, u, rfl, rfl⟩
      · rw [key_ll] at h; exact wpAny_eqBool_int h
      · rw [key_lr] at h; exact SeqAt.EqAt.int_str i t y u _ _ _ _ h
    · rcases keyIs_shape hv with ⟨j, u, rfl, rfl⟩ | ⟨y, u, rfl, rfl⟩
      · rw [key_rl] at h; exact SeqAt.EqAt.str_int x t j u _ _ _ _ h
      · rw [key_rr] at h; exact wpAny_eqBool_str h
  «strs» := fun k x t v h => by
    rcases keyIs_shape h with ⟨i, u, rfl, e⟩ | ⟨y, u, rfl, e⟩
    · exact nomatch e
    · injection e with e1 _
      subst e1
      cases v <;> rfl

end L2

namespace L2
open PySem PySem.Spec PyProof.Rows

/-- a value, without the heap -/
inductive V where
  | non | bl (b : Bool) | int (i : Int) | str (x : Str) | byt (b : Array UInt8) | flt (b : UInt64) | ref (a : Addr) | ty (n : String)
  deriving DecidableEq

def RelV : V → Value → Prop
  | .non, u => u = Value.none
  | .bl b, u => u = Value.bool b
  | .int i, u => ∃ t, u = Value.int i t
  | .str x, u => ∃ t, u = Value.str x t
  | .byt b, u => ∃ t, u = Value.bytes b t
  | .flt b, u => ∃ t, u = Value.float b t
  | .ref a, u => u = Value.ref a
  | .ty n, u => u = Value.type n

abbrev Vals : List V → List Value → Prop := Paired RelV
theorem Vals.length {xs : List V} {us : List Value} (r : Vals xs us) : xs.length = us.length := Paired.length r
theorem Vals.get : ∀ {xs : List V} {us : List Value} {i : Nat} {x : V}, Vals xs us → xs[i]? = some x → ∃ u, us[i]? = some u ∧ RelV x u
  | _, _, _, _, .nil, e => by simp at e
  | _, _, 0, _, .cons r _, e => by simp at e; subst e; exact ⟨_, rfl, r⟩
  | _, _, i + 1, x, .cons _ t, e => by
    obtain ⟨u, h1, h2⟩ := Vals.get (i := i) (x := x) t (by simpa using e)
    exact ⟨u, by simpa using h1, h2⟩
theorem Vals.set {x : V} {u : Value} (r : RelV x u) : ∀ {xs : List V} {us : List Value} (i : Nat), Vals xs us → Vals (xs.set i x) (us.set i u)
  | _, _, _, .nil => .nil
  | _, _, 0, .cons _ t => .cons r t
  | _, _, i + 1, .cons q t => .cons q (Vals.set r i t)
theorem Vals.append : ∀ {xs ys : List V} {us ws : List Value}, Vals xs us → Vals ys ws → Vals (xs ++ ys) (us ++ ws)
  | _, _, _, _, .nil, s => s
  | _, _, _, _, .cons r t, s => .cons r (Vals.append t s)
theorem Vals.take : ∀ {xs : List V} {us : List Value} (n : Nat), Vals xs us → Vals (xs.take n) (us.take n)
  | _, _, 0, _ => .nil
  | _, _, _ + 1, .nil => .nil
  | _, _, n + 1, .cons r t => .cons r (Vals.take n t)
theorem Vals.drop : ∀ {xs : List V} {us : List Value} (n : Nat), Vals xs us → Vals (xs.drop n) (us.drop n)
  | _, _, 0, r => r
  | _, _, _ + 1, .nil => .nil
  | _, _, n + 1, .cons _ t => Vals.drop n t
def RelO : Option V → Option Value → Prop
  | some v, some u => RelV v u
  | none, none => True
  | _, _ => False
def KV {κ : Type} : List (κ × V) → List (κ × Value) → Prop := Paired fun (p : κ × V) (q : κ × Value) => p.1 = q.1 ∧ RelV p.2 q.2

/-- a key of a dict (00_mix): an int or a text -/
def kV : Key → V
  | .inl i => .int i
  | .inr x => .str x

/-- what stands at a tracked address -/
inductive HO where
  /-- a list -/
  | lst (xs : List V)
  /-- a tuple (never changes) -/
  | tup (xs : List V)
  /-- a dict whose keys are ints and texts; one whose keys are tuples of ints and texts (the empty one is both) -/
  | dK (kvs : List (Key × V)) | dT (kvs : List (List Key × V))
  /-- a set of ints: its members, its size -/
  | set (S : Int → Bool) (n : Nat)
  /-- an instance of the class at C, its dict at dx, its attributes -/
  | ins (C dx : Addr) (fs : List (Str × V))
  /-- the dict of the instance at x -/
  | own (x : Addr)
  /-- the dict of an exception -/
  | xd (fs : List (Str × V))
  /-- a bound method, f of x -/
  | met (f x : Addr)
  /-- a range object lo, lo + 1, .. below hi -/
  | rng (lo hi : Int)
  /-- a thing that is known to the object (the script; a dict while a loop walks it): read, never written while it is so -/
  | frz (o : Obj) (u : HO)
  /-- a code object's table -/
  | tbl (ps : Array Value)
  /-- any other thing, by what is true of its one object (a def of one's own: SetO a S n := HO.ext fun h => ..) -/
  | ext (φ : Heap → Prop)

abbrev Hp := Addr → Option HO
def upd (H : Hp) (a : Addr) (o : HO) : Hp := fun b => if b = a then some o else H b
theorem upd_same {H : Hp} {a : Addr} {o : HO} : upd H a o a = some o := by unfold upd; rw [if_pos rfl]
theorem upd_ne {H : Hp} {a b : Addr} {o : HO} (h : b ≠ a) : upd H a o b = H b := by unfold upd; rw [if_neg h]
theorem ne_of_none {H : Hp} {a b : Addr} {o : HO} (h : H a = some o) (h' : H b = none) : a ≠ b := by
  intro e; subst e; rw [h] at h'; cases h'

section
variable (P : Program) (w : World)
def ObjOk (H : Hp) (h : Heap) (a : Addr) : HO → Prop
  | .lst xs => xs.length ≤ sizeLine ∧ ∃ (its : List Value) (n : Nat), Vals xs its ∧ h.get? a = some { cls := .type "list", data := .seq its.toArray n }
  | .tup xs => xs.length ≤ sizeLine ∧ ∃ its : List Value, Vals xs its ∧ IsTup h a its.toArray
  | .dK kvs => kvs.length ≤ sizeLine ∧ (a == sysModules) = false ∧ ∃ vs, KV kvs vs ∧ h.DictOf (mixKind P w) a vs
  | .dT kvs => kvs.length ≤ sizeLine ∧ (a == sysModules) = false ∧ ∃ xs : List (List Key × Addr × Value),
      Paired (fun (p : List Key × V) (q : List Key × Addr × Value) => p.1 = q.1 ∧ H q.2.1 = some (.tup (p.1.map kV)) ∧ RelV p.2 q.2.2) kvs xs ∧
      ∃ o es ep, h.get? a = some o ∧ o.ExactDict ∧ o.data = .dict es ep ∧ es.toList = xs.map (entryOfKey (tupleKind (mixKind P w))) ∧ (xs.map (·.1)).Nodup
  | .set S n => h.SetOf (intKind P w) a S n
  | .ins C dx fs => H dx = some (.own a) ∧ fs.length ≤ 1000 ∧ dx ≠ a ∧ h.get? a = some (PySem.W.instObj C dx) ∧
      ∃ mA, h.Ns1 dx mA ∧ (∀ f, RelO (fs.lookup f) (mA f)) ∧ PySem.Within mA (fs.map (·.1))
  | .own _ => ∃ o, h.get? a = some o
  | .xd fs => ∃ mA, h.Ns1 a mA ∧ ∀ f, RelO (fs.lookup f) (mA f)
  | .rng lo hi => ∃ t u v, h.get? a = some { cls := .type "range", data := .fields #[.int lo t, .int hi u, .int 1 v] }
  | .frz o u => h.get? a = some o ∧ ObjOk H h a u
  | .tbl ps => h.get? a = some { cls := .none, data := .fields ps }
  | .met f x => h.get? a = some (PySem.W.methodObj (.ref f) (.ref x))
  | .ext φ => φ h ∧ (∃ o, h.get? a = some o) ∧ ∀ h1 h2 : Heap, φ h1 → (∀ o, h1.get? a = some o → h2.get? a = some o) → φ h2
/-- the abstract heap is held -/
def HOk (H : Hp) (h : Heap) : Prop := ∀ a o, H a = some o → ObjOk P w H h a o
end

section
variable {P : Program} {w : World} {H H' : Hp} {h h' : Heap} {a : Addr} {o : HO}
theorem ObjOk.lt (x : ObjOk P w H h a o) : a < h.objs.size := by
  cases o with
  | lst xs => obtain ⟨_, _, _, _, e⟩ := x; exact Heap.lt_size e
  | tup xs => obtain ⟨_, _, _, p⟩ := x; exact p.lt
  | dK kvs => obtain ⟨_, _, _, _, o, _, _, e, _⟩ := x; exact Heap.lt_size e
  | dT kvs => obtain ⟨_, _, _, _, o, _, _, e, _⟩ := x; exact Heap.lt_size e
  | set S n => obtain ⟨o, _, _, _, e, _⟩ := x; exact Heap.lt_size e
  | ins C dx fs => obtain ⟨_, _, _, e, _⟩ := x; exact Heap.lt_size e
  | own y => obtain ⟨_, e⟩ := x; exact Heap.lt_size e
  | xd fs => obtain ⟨_, ⟨_, _, _, e, _⟩, _⟩ := x; exact Heap.lt_size e
  | rng lo hi => obtain ⟨_, _, _, e⟩ := x; exact Heap.lt_size e
  | frz ob u => obtain ⟨e, _⟩ := x; exact Heap.lt_size e
  | tbl ps => exact Heap.lt_size (show h.get? a = some _ from x)
  | met f y => exact Heap.lt_size (show h.get? a = some _ from x)
  | ext φ => obtain ⟨_, ⟨_, e⟩, _⟩ := x; exact Heap.lt_size e
theorem Paired.mapP {α β : Type} {F G : α → β → Prop} : ∀ {l₁ : List α} {l₂ : List β}, Paired F l₁ l₂ → (∀ a b, F a b → G a b) → Paired G l₁ l₂
  | _, _, .nil, _ => .nil
  | _, _, .cons r t, f => .cons (f _ _ r) (Paired.mapP t f)
/-- what an object's description leans on: its own object, its own dict, the tuples -/
theorem ObjOk.stay (x : ObjOk P w H h a o) (k : ∀ b u, (b = a ∨ H b = some (.own a)) → h.get? b = some u → h'.get? b = some u)
    (ho : ∀ b, H b = some (.own a) → H' b = some (.own a)) (ht : ∀ b xs, H b = some (.tup xs) → H' b = some (.tup xs)) : ObjOk P w H' h' a o := by
  induction o with
  | lst xs => obtain ⟨z, its, n, r, e⟩ := x; exact ⟨z, its, n, r, k _ _ (.inl rfl) e⟩
  | tup xs => obtain ⟨z, its, r, ob, e, c⟩ := x; exact ⟨z, its, r, ob, k _ _ (.inl rfl) e, c⟩
  | dK kvs => obtain ⟨z, y, vs, r, ob, es, ep, e, c⟩ := x; exact ⟨z, y, vs, r, ob, es, ep, k _ _ (.inl rfl) e, c⟩
  | dT kvs =>
    obtain ⟨z, y, xs, r, ob, es, ep, e, c⟩ := x
    exact ⟨z, y, xs, Paired.mapP r fun p q z => ⟨z.1, ht _ _ z.2.1, z.2.2⟩, ob, es, ep, k _ _ (.inl rfl) e, c⟩
  | set S n => obtain ⟨ob, es, ep, t, e, c⟩ := x; exact ⟨ob, es, ep, t, k _ _ (.inl rfl) e, c⟩
  | ins C dx fs =>
    obtain ⟨d, z, ne, e, mA, ⟨od, es, ep, e2, c⟩, r⟩ := x
    exact ⟨ho _ d, z, ne, k _ _ (.inl rfl) e, mA, ⟨od, es, ep, k _ _ (.inr d) e2, c⟩, r⟩
  | own y => obtain ⟨ob, e⟩ := x; exact ⟨ob, k _ _ (.inl rfl) e⟩
  | xd fs => obtain ⟨mA, ⟨od, es, ep, e, c⟩, r⟩ := x; exact ⟨mA, ⟨od, es, ep, k _ _ (.inl rfl) e, c⟩, r⟩
  | rng lo hi => obtain ⟨t, u, v, e⟩ := x; exact ⟨t, u, v, k _ _ (.inl rfl) e⟩
  | frz ob u ih => obtain ⟨e, q⟩ := x; exact ⟨k _ _ (.inl rfl) e, ih q⟩
  | tbl ps =>
    have e : h.get? a = some { cls := .none, data := .fields ps } := x
    show h'.get? a = some { cls := .none, data := .fields ps }
    exact k a _ (.inl rfl) e
  | met f y =>
    have e : h.get? a = some (PySem.W.methodObj (.ref f) (.ref y)) := x
    show h'.get? a = some (PySem.W.methodObj (.ref f) (.ref y))
    exact k a _ (.inl rfl) e
  | ext φ => obtain ⟨p, ⟨o, e⟩, st⟩ := x; exact ⟨st _ _ p fun o q => k _ _ (.inl rfl) q, ⟨o, k _ _ (.inl rfl) e⟩, st⟩
theorem HOk.lt (x : HOk P w H h) (e : H a = some o) : a < h.objs.size := (x a o e).lt
theorem HOk.fresh (x : HOk P w H h) (e : h.objs.size ≤ a) : H a = none := by
  cases q : H a with
  | none => rfl
  | some u => exact absurd (Nat.lt_of_lt_of_le (x.lt q) e) (Nat.lt_irrefl _)
/-- every object of the heap is kept -/
theorem HOk.kept (x : HOk P w H h) (k : ∀ b u, h.get? b = some u → h'.get? b = some u) : HOk P w H h' := fun a o e =>
  (x a o e).stay (fun b u _ q => k b u q) (fun _ q => q) fun _ _ q => q
/-- a new object is laid and tracked -/
theorem HOk.laid (x : HOk P w H h) (k : ∀ b u, h.get? b = some u → h'.get? b = some u) (hp : h.objs.size ≤ a) (new : ObjOk P w (upd H a o) h' a o) : HOk P w (upd H a o) h' := fun b u e => by
  have hn := x.fresh hp
  by_cases hb : b = a
  · subst hb; rw [upd_same] at e; cases e; exact new
  · rw [upd_ne hb] at e
    exact (x b u e).stay (fun c v _ q => k c v q) (fun c q => by rw [upd_ne (ne_of_none q hn)]; exact q) fun c xs q => by rw [upd_ne (ne_of_none q hn)]; exact q
end

/-- what may be read as u: it is u, or a known u -/
def Rd (H : Hp) (a : Addr) (u : HO) : Prop := H a = some u ∨ ∃ o, H a = some (.frz o u)
theorem Rd.of {H : Hp} {a : Addr} {u : HO} (h : H a = some u) : Rd H a u := .inl h
theorem Rd.ok {P : Program} {w : World} {H : Hp} {h : Heap} {a : Addr} {u : HO} (r : Rd H a u) (x : HOk P w H h) : ObjOk P w H h a u := by
  rcases r with r | ⟨o, r⟩
  · exact x a u r
  · obtain ⟨_, q⟩ := x a _ r
    exact q
/-- what may be written -/
def Mut : Option HO → Prop
  | some (.lst _) => True
  | some (.dK _) => True
  | some (.dT _) => True
  | some (.set _ _) => True
  | some (.ins _ _ _) => True
  | some (.ext _) => True
  | _ => False
section
variable {P : Program} {w : World} {H : Hp} {h h' : Heap} {x e : Addr} {o' : HO}
/-- the object at e is changed: x itself, or the dict of the instance x -/
theorem HOk.write (ok : HOk P w H h) (mu : Mut (H x)) (he : e = x ∨ H e = some (.own x)) (k : ∀ b u, b ≠ e → h.get? b = some u → h'.get? b = some u) (heo : ∃ u, h'.get? e = some u)
    (new : ObjOk P w (upd H x o') h' x o') : HOk P w (upd H x o') h' := fun b u q => by
  have nown : ∀ c y, H c = some (.own y) → c ≠ x := fun c y r z => by subst z; rw [r] at mu; exact mu
  have ntup : ∀ c xs, H c = some (.tup xs) → c ≠ x := fun c xs r z => by subst z; rw [r] at mu; exact mu
  by_cases hb : b = x
  · subst hb; rw [upd_same] at q; cases q; exact new
  · rw [upd_ne hb] at q
    by_cases hbe : b = e
    · have q' : H b = some (.own x) := by
        rcases he with z | z
        · exact absurd (hbe.trans z) hb
        · rw [hbe]; exact z
      rw [q] at q'; cases q'
      obtain ⟨v, hv⟩ := heo
      exact ⟨v, by rw [hbe]; exact hv⟩
    · refine (ok b u q).stay (fun c v hc r => k c v ?_ r) (fun c r => by rw [upd_ne (nown c b r)]; exact r) fun c xs r => by rw [upd_ne (ntup c xs r)]; exact r
      rcases hc with rfl | hc
      · exact hbe
      · rintro rfl
        rcases he with z | z
        · exact nown c b hc z
        · rw [hc] at z; cases z; exact hb rfl
end

/-! ### kept unless tracked; of the frames at fs (the callers') the slots may change (an exception that passes writes there); of the records at ex (iterators) nothing is said -/
structure Un (fs ex : List Addr) (H H' : Hp) (h h' : Heap) : Prop where
  keep : ∀ b o, h.get? b = some o → H b = none → b ∉ fs → b ∉ ex → h'.get? b = some o
  slot : ∀ b o, h.get? b = some o → H b = none → b ∈ fs → b ∉ ex → ∃ sl, h'.get? b = some { o with slots := sl }
  free : ∀ b o, h.get? b = some o → H b = none → b ∉ ex → H' b = none
  there : ∀ b o, h.get? b = some o → b ∉ ex → ∃ o', h'.get? b = some o'
  tups : ∀ b xs, H b = some (.tup xs) → H' b = some (.tup xs)
  frzs : ∀ b o u, H b = some (.frz o u) → H' b = some (.frz o u)
  tbls : ∀ b ps, H b = some (.tbl ps) → ∃ more, H' b = some (.tbl (ps ++ more))
section
variable {fs fs' ex ex' : List Addr} {H H1 H2 : Hp} {h h1 h2 h' : Heap} {a x e : Addr} {o : HO}
theorem Un.any (u : Un fs ex H H1 h h1) {b : Addr} {ob : Obj} (q : h.get? b = some ob) (n : H b = none) (hx : b ∉ ex) : ∃ sl, h1.get? b = some { ob with slots := sl } := by
  by_cases hb : b ∈ fs
  · exact u.slot b ob q n hb hx
  · exact ⟨ob.slots, u.keep b ob q n hb hx⟩
theorem Un.trans (a : Un fs ex H H1 h h1) (b : Un fs ex H1 H2 h1 h2) : Un fs ex H H2 h h2 where
  keep := fun c ob q n hc hx => b.keep c ob (a.keep c ob q n hc hx) (a.free c ob q n hx) hc hx
  slot := fun c ob q n hc hx => by
    obtain ⟨sl, e1⟩ := a.slot c ob q n hc hx
    obtain ⟨sl', e2⟩ := b.slot c _ e1 (a.free c ob q n hx) hc hx
    exact ⟨sl', e2⟩
  free := fun c ob q n hx => by
    obtain ⟨o', e1⟩ := a.there c ob q hx
    exact b.free c o' e1 (a.free c ob q n hx) hx
  there := fun c ob q hx => by
    obtain ⟨o', e1⟩ := a.there c ob q hx
    exact b.there c o' e1 hx
  tups := fun c xs q => b.tups c xs (a.tups c xs q)
  frzs := fun c ob xs q => b.frzs c ob xs (a.frzs c ob xs q)
  tbls := fun c ps q => by
    obtain ⟨m1, e1⟩ := a.tbls c ps q
    obtain ⟨m2, e2⟩ := b.tbls c _ e1
    exact ⟨m1 ++ m2, by rw [e2, Array.append_assoc]⟩
theorem Un.kept (k : ∀ b u, h.get? b = some u → h'.get? b = some u) : Un fs ex H H h h' :=
  ⟨fun b ob q _ _ _ => k b ob q, fun b ob q _ _ _ => ⟨ob.slots, k b ob q⟩, fun _ _ _ n _ => n, fun b ob q _ => ⟨ob, k b ob q⟩, fun _ _ q => q, fun _ _ _ q => q, fun _ ps q => ⟨#[], by rw [q]; simp⟩⟩
theorem Un.refl : Un fs ex H H h h := Un.kept fun _ _ q => q
theorem Un.laid (k : ∀ b u, h.get? b = some u → h'.get? b = some u) (hp : h.objs.size ≤ a) (hn : H a = none) : Un fs ex H (upd H a o) h h' where
  keep := fun b u q _ _ _ => k b u q
  slot := fun b u q _ _ _ => ⟨u.slots, k b u q⟩
  free := fun b u q n _ => by rw [upd_ne (Nat.ne_of_lt (Nat.lt_of_lt_of_le (Heap.lt_size q) hp))]; exact n
  there := fun b u q _ => ⟨u, k b u q⟩
  tups := fun b xs q => by rw [upd_ne (ne_of_none q hn)]; exact q
  frzs := fun b u xs q => by rw [upd_ne (ne_of_none q hn)]; exact q
  tbls := fun b ps q => ⟨#[], by rw [upd_ne (ne_of_none q hn), q]; simp⟩
theorem Un.write (mu : Mut (H x)) (he : e = x ∨ H e = some (.own x)) (k : ∀ b u, b ≠ e → h.get? b = some u → h'.get? b = some u) (heo : ∃ u, h'.get? e = some u) : Un fs ex H (upd H x o) h h' := by
  have hx : ∀ b, H b = none → b ≠ x := fun b n z => by subst z; rw [n] at mu; exact mu
  have hb : ∀ b, H b = none → b ≠ e := fun b n z => by
    subst z
    rcases he with r | r
    · exact hx b n r
    · rw [n] at r; cases r
  have hm : ∀ b u, H b = some u → ¬ Mut (some u) → b ≠ x := fun b u q nm z => by subst z; rw [q] at mu; exact nm mu
  refine ⟨fun b u q n _ _ => k b u (hb b n) q, fun b u q n _ _ => ⟨u.slots, k b u (hb b n) q⟩, fun b u q n _ => by rw [upd_ne (hx b n)]; exact n, fun b u q _ => ?_,
    fun b xs q => by rw [upd_ne (hm b _ q fun z => z)]; exact q, fun b u xs q => by rw [upd_ne (hm b _ q fun z => z)]; exact q, fun b ps q => ⟨#[], by rw [upd_ne (hm b _ q fun z => z), q]; simp⟩⟩
  by_cases hbe : b = e
  · subst hbe; exact heo
  · exact ⟨u, k b u hbe q⟩
theorem Un.mono (u : Un fs ex H H1 h h1) (hs : ∀ b ∈ fs, b ∈ fs') (hx : ∀ b ∈ ex, b ∈ ex') : Un fs' ex' H H1 h h1 :=
  ⟨fun b ob q n hb he => u.keep b ob q n (fun z => hb (hs b z)) fun z => he (hx b z), fun _ _ q n _ he => u.any q n fun z => he (hx _ z), fun b ob q n he => u.free b ob q n fun z => he (hx b z), fun b ob q he => u.there b ob q fun z => he (hx b z), u.tups, u.frzs, u.tbls⟩
end

/-! ### the heap without what is tracked -/
def trk (h : Heap) (H : Hp) : List Addr := (List.range h.objs.size).filter fun a => (H a).isSome
def hidT (h : Heap) (H : Hp) : Heap := PySem.W.hideAll h (trk h H)
theorem hidT_size (h : Heap) (H : Hp) : (hidT h H).objs.size = h.objs.size := PySem.W.hideAll_size _ _
theorem hidT_get {h : Heap} {H : Hp} {b : Addr} {o : Obj} (e : h.get? b = some o) (n : H b = none) : (hidT h H).get? b = some o :=
  PySem.W.hideAll_get _ e fun hm => by
    have q : (H b).isSome = true := (List.mem_filter.mp hm).2
    rw [n] at q; simp at q
theorem of_hidT {h : Heap} {H : Hp} {b : Addr} {o : Obj} (e : (hidT h H).get? b = some o) : h.get? b = some o ∧ H b = none := by
  have e' : h.get? b = some o := PySem.W.of_hideAll (trk h H) e
  refine ⟨e', ?_⟩
  cases q : H b with
  | none => rfl
  | some x =>
    have hm : b ∈ trk h H := List.mem_filter.mpr ⟨List.mem_range.mpr (Heap.lt_size e'), by simp [q]⟩
    have z : (hidT h H).get? b = none := PySem.W.hideAll_none (trk h H) hm
    rw [z] at e; cases e

/-! ### OpenK's ledger, filled with every new object but one -/
def allNews (g h : Heap) (L : Addr) : List (Addr × Obj) := (List.range h.objs.size).filterMap fun a => if a = L ∨ (g.get? a).isSome = true then none else (h.get? a).map fun o => (a, o)
def rest (g h : Heap) (L d : Addr) : List (Addr × Obj) := (allNews g h L).filter fun p => decide (p.1 ≠ d)
end L2

namespace L2
open PySem PySem.Spec PyProof.Rows

/-- the module's facts, over the base: the heap at the law's entry without what is tracked there -/
structure Mod (K : PySem.W.Frag) (mg : Str → Option Value) (base : Heap) : Prop where
  kin : K.In base
  glob : base.Ns mainGlobals mg
  blt : ∃ mb, base.Ns builtinsNs mb ∧ ∀ x : Str, x ≠ "__name__" → mb x = bootBuiltins x
  nolimit : base.NoLimit

/-- the context: a def's body (or a comprehension's block) running. base: fixed through the whole law; s₀, H₀: the entry; outer: the frames whose slots others may change (a def's callers); stack: all frames that run;
   ex: iterators that were made ahead of the entry and are walked here (a comprehension's); fn: the names whose cells were made at the entry (a def: all; a comprehension's block: its own); calm: not within an except suite; pn: pins that every state bears; xe: what is wanted of an exception that leaves the code -/
structure Cx where
  prog : Program
  w : World
  K : PySem.W.Frag
  mg : Str → Option Value
  base : Heap
  A : Around
  N : List Str
  s₀ : Shared
  H₀ : Hp
  env : Env
  outer : List Env
  stack : List Env
  ex : List Addr
  fn : Str → Bool
  calm : Bool
  pn : List (Addr × Obj)
  xe : Value → Shared → Prop
/-- the callers' frames -/
def frs (l : List Env) : List Addr := l.filterMap (·.frame)
abbrev Cx.fs (X : Cx) : List Addr := frs X.outer

def Vis (sc : Scope) (x : Str) : Prop := sc.names.lookup x = some .local ∨ sc.names.lookup x = some .cell ∨ sc.names.lookup x = some .free
def Loc (sc : Scope) (x : Str) : Prop := sc.names.lookup x = some .local ∨ sc.names.lookup x = some .cell
def Look (env : Env) (h : Heap) (m : Str → Option Value) (x : Str) (u : Value) : Prop :=
  (env.kindOf x = some .local ∧ m x = some u) ∨ ((env.kindOf x = some .cell ∨ env.kindOf x = some .free) ∧ ∃ c, env.cells.lookup x = some c ∧ h.IsCell c (some u))

structure Cx.Ok (X : Cx) : Prop where
  mod : Mod X.K X.mg X.base
  kind : X.env.scope.kind = .function
  glob : X.env.globals = mainGlobals
  blt : X.env.builtins = builtinsNs
  above : X.s₀.heap.objs.size ≤ X.env.locals
  inj : ∀ x y c, X.env.cells.lookup x = some c → X.env.cells.lookup y = some c → x = y
  has : ∀ x, (X.env.kindOf x = some .cell ∨ X.env.kindOf x = some .free) → ∃ c, X.env.cells.lookup x = some c
  cab : ∀ x c, X.fn x = true → X.env.cells.lookup x = some c → X.s₀.heap.objs.size ≤ c
  hd : X.calm = true → X.A.handled = none
  frames : X.A.frames = some X.stack
  stk : X.stack = X.outer ∨ (X.stack = X.env :: X.outer ∧ X.env.frame = some X.env.locals)
  exf : ∀ b ∈ X.ex, b ≠ X.env.locals ∧ ∀ x c, X.env.cells.lookup x = some c → c ≠ b
  bs : ∀ b o, X.base.get? b = some o → X.s₀.heap.get? b = some o ∧ X.H₀ b = none
  bsz : X.base.objs.size ≤ X.s₀.heap.objs.size
  noex : ∀ b o, X.base.get? b = some o → b ∉ X.ex
  exfs : ∀ b ∈ X.ex, b ∉ X.fs
  funs : X.s₀.heap.FunFrames X.base X.outer
  frf : ∀ b ∈ X.fs, X.H₀ b = none

structure Inv (X : Cx) (pins : List (Addr × Obj)) (σ : List (Option V)) (H : Hp) (s : Shared) : Prop where
  ok : X.Ok
  os : s.os = X.s₀.os
  bare : AllBare s.gens
  base : Un X.fs X.ex X.H₀ H X.s₀.heap s.heap
  loc : ∃ m, s.heap.Ns X.env.locals m ∧ ∀ (i : Nat) (x : Str) (v : V), X.N[i]? = some x → σ[i]? = some (some v) → Vis X.env.scope x → ∃ u, RelV v u ∧ Look X.env s.heap m x u
  cell : ∀ x c, X.env.cells.lookup x = some c → ∃ v, s.heap.IsCell c v
  free : H X.env.locals = none
  freeC : ∀ x c, X.env.cells.lookup x = some c → H c = none
  pin : ∀ p ∈ X.pn ++ pins, s.heap.get? p.1 = some p.2 ∧ H p.1 = none ∧ p.1 ≠ X.env.locals ∧ p.1 ∉ X.fs ∧ ∀ v, p.2.data ≠ .cell v
  hok : HOk X.prog X.w H s.heap
  len : σ.length = X.N.length

section
variable {X : Cx} {pins : List (Addr × Obj)} {σ : List (Option V)} {H H' : Hp} {s : Shared} {h' : Heap}

theorem Cx.Ok.nofr (ok : X.Ok) {b : Addr} {o : Obj} (e : X.base.get? b = some o) : b ∉ X.fs := fun hb => by
  have := (ok.funs.mem hb).1
  rw [e] at this; cases this
theorem Inv.bs (I : Inv X pins σ H s) : ∀ b o, X.base.get? b = some o → s.heap.get? b = some o ∧ H b = none := fun b o e =>
  ⟨I.base.keep b o (I.ok.bs b o e).1 (I.ok.bs b o e).2 (I.ok.nofr e) (I.ok.noex b o e), I.base.free b o (I.ok.bs b o e).1 (I.ok.bs b o e).2 (I.ok.noex b o e)⟩
theorem Inv.bk (I : Inv X pins σ H s) : ∀ b o, X.base.get? b = some o → s.heap.get? b = some o := fun b o e => (I.bs b o e).1
theorem Inv.mod (I : Inv X pins σ H s) : Mod X.K X.mg X.base := I.ok.mod
theorem Inv.kIn (I : Inv X pins σ H s) : X.K.In s.heap := I.ok.mod.kin.keeps I.bk
theorem Inv.nolimit (I : Inv X pins σ H s) : s.heap.NoLimit := I.ok.mod.nolimit.keeps I.bk
theorem Inv.lt (I : Inv X pins σ H s) : X.env.locals < s.heap.objs.size := let ⟨_, hn, _⟩ := I.loc; hn.lt
theorem Inv.sz (I : Inv X pins σ H s) : X.s₀.heap.objs.size ≤ s.heap.objs.size := Nat.le_trans I.ok.above (Nat.le_of_lt I.lt)
theorem Inv.nofs (I : Inv X pins σ H s) {a : Addr} (h : s.heap.objs.size ≤ a) : a ∉ X.fs := fun hb => by
  obtain ⟨_, o, ho, _⟩ := I.ok.funs.mem hb
  exact absurd (Nat.lt_of_lt_of_le (Heap.lt_size ho) (Nat.le_trans I.sz h)) (Nat.lt_irrefl _)
theorem Inv.cne (I : Inv X pins σ H s) : ∀ x c, X.env.cells.lookup x = some c → c ≠ X.env.locals := fun x c e z => by
  obtain ⟨v, o, ho, hd⟩ := I.cell x c e
  obtain ⟨m, ⟨o', es, ep, ho', hd', _⟩, _⟩ := I.loc
  rw [z, ho'] at ho; cases ho; rw [hd'] at hd; cases hd
theorem Inv.funs (I : Inv X pins σ H s) : s.heap.FunFrames X.base X.outer := by
  have all : ∀ (l : List Env), (∀ b ∈ frs l, b ∈ X.fs) → X.s₀.heap.FunFrames X.base l → s.heap.FunFrames X.base l := by
    intro l
    induction l with
    | nil => intro _ _; trivial
    | cons env r ih =>
      intro hs hl
      obtain ⟨hk, ⟨L, o, hf, hn, ho, hd⟩, hr⟩ := hl
      have hL : L ∈ X.fs := hs L (by unfold frs; rw [List.filterMap_cons, hf]; exact List.mem_cons_self)
      obtain ⟨sl, e⟩ := I.base.slot L o ho (I.ok.frf L hL) hL fun z => I.ok.exfs L z hL
      exact ⟨hk, ⟨L, _, hf, hn, e, hd⟩, ih (fun b hb => hs b (by unfold frs; rw [List.filterMap_cons, hf]; exact List.mem_cons_of_mem _ hb)) hr⟩
  exact all X.outer (fun _ hb => hb) I.ok.funs

/-- the frames that run, for a call -/
theorem Inv.stack (I : Inv X pins σ H s) : s.heap.FunFrames X.base X.stack := by
  rcases I.ok.stk with e | ⟨e, hf⟩
  · rw [e]; exact I.funs
  · rw [e]
    obtain ⟨m, hn, _⟩ := I.loc
    refine .cons (by rw [I.ok.kind]; decide) hf hn ?_ I.funs
    exact Heap.get?_none_of_le (Nat.le_trans I.ok.bsz I.ok.above)
theorem Inv.stkSub (I : Inv X pins σ H s) : ∀ b ∈ frs X.stack, b ∈ X.env.locals :: X.fs := fun b hb => by
  rcases I.ok.stk with e | ⟨e, hf⟩
  · rw [e] at hb; exact List.mem_cons_of_mem _ hb
  · rw [e] at hb
    unfold frs at hb
    rw [List.filterMap_cons, hf] at hb
    exact hb
theorem Inv.stkFree (I : Inv X pins σ H s) : ∀ b ∈ frs X.stack, H b = none := fun b hb => by
  rcases List.mem_cons.mp (I.stkSub b hb) with e | hb
  · rw [e]; exact I.free
  · obtain ⟨_, o, ho, _⟩ := I.ok.funs.mem hb
    exact I.base.free b o ho (I.ok.frf b hb) fun z => I.ok.exfs b z hb

/-- THE STEP: the untracked objects but the frame and the records at ch are kept (the callers' frames up to slots), the frame's map is kept, the new abstract heap is held -/
theorem Inv.step {g' : Array GenState} {t' : Nat} {d' : Drawn} {ch : List Addr} (I : Inv X pins σ H s)
    (hch : ∀ b ∈ ch, (b ∈ X.ex ∨ X.s₀.heap.objs.size ≤ b) ∧ b ≠ X.env.locals ∧ (∀ x c, X.env.cells.lookup x = some c → c ≠ b) ∧ ∀ p ∈ X.pn ++ pins, p.1 ≠ b)
    (keep : ∀ b o, b ≠ X.env.locals → b ∉ X.fs → b ∉ ch → s.heap.get? b = some o → H b = none → h'.get? b = some o)
    (slot : ∀ b o, b ≠ X.env.locals → b ∈ X.fs → b ∉ ch → s.heap.get? b = some o → H b = none → ∃ sl, h'.get? b = some { o with slots := sl }) (free : ∀ b o, b ∉ ch → s.heap.get? b = some o → H b = none → H' b = none)
    (there : ∀ b o, b ∉ ch → s.heap.get? b = some o → ∃ o', h'.get? b = some o')
    (tups : ∀ b xs, H b = some (.tup xs) → H' b = some (.tup xs)) (frzs : ∀ b o u, H b = some (.frz o u) → H' b = some (.frz o u)) (tbls : ∀ b ps, H b = some (.tbl ps) → ∃ more, H' b = some (.tbl (ps ++ more)))
    (ns : ∀ m, s.heap.Ns X.env.locals m → h'.Ns X.env.locals m) (hok : HOk X.prog X.w H' h') (hg : AllBare g') :
    Inv X pins σ H' { s with heap := h', gens := g', drawn := d', toks := t' } := by
  have neL : ∀ b o, X.s₀.heap.get? b = some o → b ≠ X.env.locals := fun b o e => Nat.ne_of_lt (Nat.lt_of_lt_of_le (Heap.lt_size e) I.ok.above)
  have neC : ∀ b o, X.s₀.heap.get? b = some o → b ∉ X.ex → b ∉ ch := fun b o e hx hb => by
    rcases (hch b hb).1 with z | z
    · exact hx z
    · exact absurd (Nat.lt_of_lt_of_le (Heap.lt_size e) z) (Nat.lt_irrefl _)
  have cellK : ∀ x c, X.env.cells.lookup x = some c → ∀ v, s.heap.IsCell c v → h'.IsCell c v := fun x c e v ⟨o, ho, hd⟩ => by
    have nch : c ∉ ch := fun z => (hch c z).2.2.1 x c e rfl
    by_cases hc : c ∈ X.fs
    · obtain ⟨sl, q⟩ := slot c o (I.cne x c e) hc nch ho (I.freeC x c e)
      exact ⟨_, q, hd⟩
    · exact ⟨o, keep c o (I.cne x c e) hc nch ho (I.freeC x c e), hd⟩
  refine ⟨I.ok, I.os, hg, ⟨fun b o e n hb hx => ?_, fun b o e n hb hx => ?_, fun b o e n hx => ?_, fun b o e hx => ?_, fun b xs e => tups b xs (I.base.tups b xs e), fun b o xs e => frzs b o xs (I.base.frzs b o xs e), fun b ps e => ?_⟩, ?_, fun x c e => ?_, ?_, fun x c e => ?_, fun p hp => ?_, hok, I.len⟩
  · exact keep b o (neL b o e) hb (neC b o e hx) (I.base.keep b o e n hb hx) (I.base.free b o e n hx)
  · obtain ⟨sl, e1⟩ := I.base.slot b o e n hb hx
    obtain ⟨sl', e2⟩ := slot b _ (neL b o e) hb (neC b o e hx) e1 (I.base.free b o e n hx)
    exact ⟨sl', e2⟩
  · obtain ⟨o', e1⟩ := I.base.there b o e hx
    exact free b o' (neC b o e hx) e1 (I.base.free b o e n hx)
  · obtain ⟨o', e1⟩ := I.base.there b o e hx
    exact there b o' (neC b o e hx) e1
  · obtain ⟨m1, e1⟩ := I.base.tbls b ps e
    obtain ⟨m2, e2⟩ := tbls b _ e1
    exact ⟨m1 ++ m2, by rw [e2, Array.append_assoc]⟩
  · obtain ⟨m, hn, hl⟩ := I.loc
    refine ⟨m, ns m hn, fun i x v e1 e2 e3 => ?_⟩
    obtain ⟨u, r, l⟩ := hl i x v e1 e2 e3
    refine ⟨u, r, ?_⟩
    rcases l with l | ⟨k, c, e, z⟩
    · exact .inl l
    · exact .inr ⟨k, c, e, cellK x c e _ z⟩
  · obtain ⟨v, z⟩ := I.cell x c e
    exact ⟨v, cellK x c e v z⟩
  · obtain ⟨m, ⟨o, _, _, ho, _⟩, _⟩ := I.loc
    exact free _ o (fun z => (hch _ z).2.1 rfl) ho I.free
  · obtain ⟨v, o, ho, hd⟩ := I.cell x c e
    exact free c o (fun z => (hch c z).2.2.1 x c e rfl) ho (I.freeC x c e)
  · obtain ⟨e, n, ne, nf, d⟩ := I.pin p hp
    have nch : p.1 ∉ ch := fun z => (hch p.1 z).2.2.2 p hp rfl
    exact ⟨keep p.1 p.2 ne nf nch e n, free p.1 p.2 nch e n, ne, nf, d⟩
/-- .. where the frame's own object is kept too -/
theorem Inv.un {t' : Nat} (I : Inv X pins σ H s) (u : Un X.fs [] H H' s.heap h') (hok : HOk X.prog X.w H' h') : Inv X pins σ H' { s with heap := h', toks := t' } := by
  obtain ⟨m, ⟨o, es, ep, ho, r⟩, _⟩ := id I.loc
  obtain ⟨sl, hL⟩ := u.any ho I.free (by simp)
  exact I.step (g' := s.gens) (d' := s.drawn) (ch := []) (fun _ z => nomatch z) (fun b o _ hb _ e n => u.keep b o e n hb (by simp)) (fun b o _ hb _ e n => u.slot b o e n hb (by simp)) (fun b o _ e n => u.free b o e n (by simp)) (fun b o _ e => u.there b o e (by simp)) u.tups u.frzs u.tbls (fun m' hm => by
    obtain ⟨o', es', ep', ho', r'⟩ := hm
    rw [ho] at ho'; cases ho'
    exact ⟨_, es', ep', hL, r'⟩) hok I.bare
/-- behind a call (or a comprehension's block): the slots of this frame may have changed too, the records at ch may have turned -/
theorem Inv.call {g' : Array GenState} {t' : Nat} {d' : Drawn} {ch : List Addr} (I : Inv X pins σ H s) (u : Un (frs X.stack) ch H H' s.heap h') (hok : HOk X.prog X.w H' h') (hg : AllBare g')
    (hch : ∀ b ∈ ch, (b ∈ X.ex ∨ X.s₀.heap.objs.size ≤ b) ∧ b ≠ X.env.locals ∧ (∀ x c, X.env.cells.lookup x = some c → c ≠ b) ∧ ∀ p ∈ X.pn ++ pins, p.1 ≠ b) :
    Inv X pins σ H' { s with heap := h', gens := g', drawn := d', toks := t' } := by
  obtain ⟨m, ⟨o, es, ep, ho, r⟩, _⟩ := id I.loc
  obtain ⟨sl, hL⟩ := u.any ho I.free fun z => (hch _ z).2.1 rfl
  exact I.step (ch := ch) hch (fun b o hL hb hc e n => u.keep b o e n (fun z => (List.mem_cons.mp (I.stkSub b z)).elim hL hb) hc) (fun b o _ _ hc e n => u.any e n hc) (fun b o hc e n => u.free b o e n hc) (fun b o hc e => u.there b o e hc) u.tups u.frzs u.tbls (fun m' hm => by
    obtain ⟨o', es', ep', ho', r'⟩ := hm
    rw [ho] at ho'; cases ho'
    exact ⟨_, es', ep', hL, r'⟩) hok hg
/-- an untracked record of ours (an iterator) has turned -/
theorem Inv.turned {t' : Nat} {it : Addr} (I : Inv X pins σ H s) (k : ∀ b o, b ≠ it → s.heap.get? b = some o → h'.get? b = some o) (hn : H it = none) (hL : it ≠ X.env.locals)
    (h1 : it ∈ X.ex ∨ X.s₀.heap.objs.size ≤ it) (h2 : ∀ x c, X.env.cells.lookup x = some c → c ≠ it) (h3 : ∀ p ∈ X.pn ++ pins, p.1 ≠ it) : Inv X pins σ H { s with heap := h', toks := t' } := by
  have nit : ∀ b u, H b = some u → b ≠ it := fun b u e z => by rw [z, hn] at e; cases e
  refine I.step (g' := s.gens) (d' := s.drawn) (ch := [it]) (fun b hb => ?_) (fun b o _ _ hc e _ => k b o (fun z => hc (by simp [z])) e) (fun b o _ _ hc e _ => ⟨o.slots, k b o (fun z => hc (by simp [z])) e⟩) (fun _ _ _ _ n => n)
    (fun b o hc e => ⟨o, k b o (fun z => hc (by simp [z])) e⟩) (fun _ _ e => e) (fun _ _ _ e => e) (fun b ps e => ⟨#[], by rw [e]; simp⟩) (fun m hm => ?_) (fun b u e => ?_) I.bare
  · have e : b = it := by simpa using hb
    subst e
    exact ⟨h1, hL, h2, h3⟩
  · obtain ⟨o, es, ep, ho, r⟩ := hm
    exact ⟨o, es, ep, k _ o (Ne.symm hL) ho, r⟩
  · refine (I.hok b u e).stay (fun c v hc q => k c v ?_ q) (fun _ q => q) fun _ _ q => q
    rcases hc with z | z
    · rw [z]; exact nit b u e
    · exact nit c _ z
theorem Inv.tok (I : Inv X pins σ H s) (t : Nat) : Inv X pins σ H { s with toks := t } := I.un (h' := s.heap) (t' := t) Un.refl I.hok
/-- all objects kept -/
theorem Inv.kept {t' : Nat} (I : Inv X pins σ H s) (k : ∀ b u, s.heap.get? b = some u → h'.get? b = some u) : Inv X pins σ H { s with heap := h', toks := t' } := I.un (Un.kept k) (I.hok.kept k)
/-- a new object laid and tracked -/
theorem Inv.laid {a : Addr} {o : HO} {t' : Nat} (I : Inv X pins σ H s) (k : ∀ b u, s.heap.get? b = some u → h'.get? b = some u) (hp : s.heap.objs.size ≤ a) (new : ObjOk X.prog X.w (upd H a o) h' a o) :
    Inv X pins σ (upd H a o) { s with heap := h', toks := t' } := I.un (Un.laid k hp (I.hok.fresh hp)) (I.hok.laid k hp new)
/-- an object written -/
theorem Inv.write {x e : Addr} {o : HO} {t' : Nat} (I : Inv X pins σ H s) (mu : Mut (H x)) (he : e = x ∨ H e = some (.own x)) (k : ∀ b u, b ≠ e → s.heap.get? b = some u → h'.get? b = some u) (heo : ∃ u, h'.get? e = some u)
    (new : ObjOk X.prog X.w (upd H x o) h' x o) : Inv X pins σ (upd H x o) { s with heap := h', toks := t' } := I.un (Un.write mu he k heo) (I.hok.write mu he k heo new)
/-- forgetting slots, pins -/
theorem Inv.weak {σ' : List (Option V)} (I : Inv X pins σ H s) (hl : σ'.length = σ.length) (w : ∀ (i : Nat) v, σ'[i]? = some (some v) → σ[i]? = some (some v)) : Inv X pins σ' H s :=
  ⟨I.ok, I.os, I.bare, I.base, let ⟨m, hn, hl'⟩ := I.loc; ⟨m, hn, fun i x v e1 e2 e3 => hl' i x v e1 (w i v e2) e3⟩, I.cell, I.free, I.freeC, I.pin, I.hok, hl.trans I.len⟩
theorem Inv.pins_of {pins' : List (Addr × Obj)} (I : Inv X pins σ H s) (h : ∀ p ∈ pins', s.heap.get? p.1 = some p.2 ∧ H p.1 = none ∧ p.1 ≠ X.env.locals ∧ p.1 ∉ X.fs ∧ ∀ v, p.2.data ≠ .cell v) : Inv X pins' σ H s :=
  ⟨I.ok, I.os, I.bare, I.base, I.loc, I.cell, I.free, I.freeC, fun p hp => (List.mem_append.mp hp).elim (fun z => I.pin p (List.mem_append_left _ z)) (h p), I.hok, I.len⟩

theorem nodup_ix {N : List Str} (hN : N.Nodup) {i j : Nat} {x : Str} (a : N[i]? = some x) (b : N[j]? = some x) : i = j := by
  obtain ⟨h1, e1⟩ := List.getElem?_eq_some_iff.mp a
  obtain ⟨h2, e2⟩ := List.getElem?_eq_some_iff.mp b
  exact (List.getElem_inj hN).mp (e1.trans e2.symm)

/-- a name is stored; what changed -/
theorem store_ok2 {M : Model} {A : Around} {E : Value → Shared → Prop} {i : Nat} {x : Str} {v : V} {u : Value} {Q : Unit → Shared → Prop} (I : Inv X pins σ H s) (hN : X.N.Nodup) (hi : X.N[i]? = some x) (hx : Loc X.env.scope x) (r : RelV v u)
    (h : ∀ s', Inv X pins (σ.set i (some v)) H s' → (∃ a, Heap.SameBut a s.heap s'.heap ∧ (a = X.env.locals ∨ X.env.cells.lookup x = some a)) → Q () s') (hf : X.fn x = true ∨ X.env.scope.names.lookup x = some .local := by first | exact .inl rfl | exact .inr rfl | assumption) : wpAny M A (storeName X.env x u) Q E s := by
  obtain ⟨m, hn, hl⟩ := id I.loc
  have hcls : (X.env.scope.kind == .class || (X.env.scope.kind == .module && X.env.locals != X.env.globals)) = false := by rw [I.ok.kind]; rfl
  have hiσ : i < σ.length := by rw [I.len]; exact (List.getElem?_eq_some_iff.mp hi).1
  have cne := I.cne
  have tracked : ∀ {a : Addr} {h' : Heap}, (∃ o, s.heap.get? a = some o ∧ H a = none) → Heap.SameBut a s.heap h' → HOk X.prog X.w H h' := fun {a h'} ha hs b ob e => by
    obtain ⟨_, _, hfree⟩ := ha
    refine (I.hok b ob e).stay (fun c w' hc q => (hs.2 c ?_).trans q) (fun _ q => q) fun _ _ q => q
    rintro rfl
    rcases hc with rfl | hc
    · rw [hfree] at e; cases e
    · rw [hfree] at hc; cases hc
  rcases hx with hk | hk
  · refine wpAny_storeName_local hk hn (fun h' hn' hs => ?_) hcls
    obtain ⟨oL, _, _, hoL, _⟩ := id hn
    refine h _ ⟨I.ok, I.os, I.bare, ⟨fun b o e n hb hx => ?_, fun b o e n hb hx => ?_, I.base.free, fun b o e hx => ?_, I.base.tups, I.base.frzs, I.base.tbls⟩, ⟨_, hn', fun j y v' e1 e2 e3 => ?_⟩, fun y c e => ?_, I.free, I.freeC, fun p hp => ?_, tracked ⟨oL, hoL, I.free⟩ hs, by simpa using I.len⟩ ⟨_, hs, .inl rfl⟩
    · exact (hs.2 b (Nat.ne_of_lt (Nat.lt_of_lt_of_le (Heap.lt_size e) I.ok.above))).trans (I.base.keep b o e n hb hx)
    · obtain ⟨sl, e1⟩ := I.base.slot b o e n hb hx
      exact ⟨sl, (hs.2 b (Nat.ne_of_lt (Nat.lt_of_lt_of_le (Heap.lt_size e) I.ok.above))).trans e1⟩
    · obtain ⟨o', e1⟩ := I.base.there b o e hx
      exact ⟨o', (hs.2 b (Nat.ne_of_lt (Nat.lt_of_lt_of_le (Heap.lt_size e) I.ok.above))).trans e1⟩
    · by_cases hj : j = i
      · subst hj
        rw [hi] at e1; cases e1
        rw [List.getElem?_set_self hiσ] at e2
        cases e2
        exact ⟨u, r, .inl ⟨hk, by simp⟩⟩
      · rw [List.getElem?_set_ne (Ne.symm hj)] at e2
        obtain ⟨u', r', q⟩ := hl j y v' e1 e2 e3
        refine ⟨u', r', ?_⟩
        rcases q with ⟨k, e⟩ | ⟨k, c, e, z⟩
        · refine .inl ⟨k, ?_⟩
          have : y ≠ x := fun e => hj (nodup_ix hN e1 (e ▸ hi))
          simp [this, e]
        · exact .inr ⟨k, c, e, z.sameBut hs (cne y c e)⟩
    · obtain ⟨w', z⟩ := I.cell y c e
      exact ⟨w', z.sameBut hs (cne y c e)⟩
    · obtain ⟨e, n, ne, nf, d⟩ := I.pin p hp
      exact ⟨(hs.2 p.1 ne).trans e, n, ne, nf, d⟩
  · have hfn : X.fn x = true := by
      rcases hf with z | z
      · exact z
      · rw [z] at hk; cases hk
    obtain ⟨c, hc⟩ := I.ok.has x (.inl hk)
    obtain ⟨w', z⟩ := I.cell x c hc
    refine wpAny_storeName_cell I.ok.kind hk hc z (fun h' hc' hs => ?_)
    obtain ⟨oc, hoc, hocd⟩ := id z
    refine h { s with heap := h' } ⟨I.ok, I.os, I.bare, ⟨fun b o e n hb hx => ?_, fun b o e n hb hx => ?_, I.base.free, fun b o e hx => ?_, I.base.tups, I.base.frzs, I.base.tbls⟩, ⟨m, hn.sameBut hs (Ne.symm (cne x c hc)), fun j y v' e1 e2 e3 => ?_⟩, fun y c' e => ?_, I.free, I.freeC, fun p hp => ?_, tracked ⟨oc, hoc, I.freeC x c hc⟩ hs, by simpa using I.len⟩ ⟨c, hs, .inr hc⟩
    · exact (hs.2 b (Nat.ne_of_lt (Nat.lt_of_lt_of_le (Heap.lt_size e) (I.ok.cab x c hfn hc)))).trans (I.base.keep b o e n hb hx)
    · obtain ⟨sl, e1⟩ := I.base.slot b o e n hb hx
      exact ⟨sl, (hs.2 b (Nat.ne_of_lt (Nat.lt_of_lt_of_le (Heap.lt_size e) (I.ok.cab x c hfn hc)))).trans e1⟩
    · obtain ⟨o', e1⟩ := I.base.there b o e hx
      exact ⟨o', (hs.2 b (Nat.ne_of_lt (Nat.lt_of_lt_of_le (Heap.lt_size e) (I.ok.cab x c hfn hc)))).trans e1⟩
    · by_cases hj : j = i
      · subst hj
        rw [hi] at e1; cases e1
        rw [List.getElem?_set_self hiσ] at e2
        cases e2
        exact ⟨u, r, .inr ⟨.inl hk, c, hc, hc'⟩⟩
      · rw [List.getElem?_set_ne (Ne.symm hj)] at e2
        obtain ⟨u', r', q⟩ := hl j y v' e1 e2 e3
        refine ⟨u', r', ?_⟩
        rcases q with q | ⟨k, c', e, z'⟩
        · exact .inl q
        · refine .inr ⟨k, c', e, z'.sameBut hs ?_⟩
          rintro rfl
          exact hj (nodup_ix hN e1 (I.ok.inj _ _ _ e hc ▸ hi))
    · by_cases hcc : c' = c
      · subst hcc; exact ⟨_, hc'⟩
      · obtain ⟨w2, z2⟩ := I.cell y c' e
        exact ⟨w2, z2.sameBut hs hcc⟩
    · obtain ⟨e, n, ne, nf, d⟩ := I.pin p hp
      refine ⟨(hs.2 p.1 ?_).trans e, n, ne, nf, d⟩
      intro q
      rw [q, hoc] at e
      have q' : oc = p.2 := Option.some.inj e
      exact d w' (by rw [← q']; exact hocd)
theorem store_ok {M : Model} {A : Around} {E : Value → Shared → Prop} {i : Nat} {x : Str} {v : V} {u : Value} {Q : Unit → Shared → Prop} (I : Inv X pins σ H s) (hN : X.N.Nodup) (hi : X.N[i]? = some x) (hx : Loc X.env.scope x) (r : RelV v u)
    (h : ∀ s', Inv X pins (σ.set i (some v)) H s' → Q () s') (hf : X.fn x = true ∨ X.env.scope.names.lookup x = some .local := by first | exact .inl rfl | exact .inr rfl | assumption) : wpAny M A (storeName X.env x u) Q E s :=
  store_ok2 I hN hi hx r (fun s' I' _ => h s' I') hf
/-- behind a call or a block, the state as it is -/
theorem Inv.call' {s' : Shared} {ch : List Addr} (I : Inv X pins σ H s) (ho : s'.os = s.os) (u : Un (frs X.stack) ch H H' s.heap s'.heap) (hok : HOk X.prog X.w H' s'.heap) (hg : AllBare s'.gens)
    (hch : ∀ b ∈ ch, (b ∈ X.ex ∨ X.s₀.heap.objs.size ≤ b) ∧ b ≠ X.env.locals ∧ (∀ x c, X.env.cells.lookup x = some c → c ≠ b) ∧ ∀ p ∈ X.pn ++ pins, p.1 ≠ b) : Inv X pins σ H' s' := by
  obtain ⟨h', g', d', t', o'⟩ := s'
  have e : o' = s.os := ho
  subst e
  exact I.call (g' := g') (t' := t') (d' := d') u hok hg hch
end

/-! ### the judgements -/
/-- an exception: its class, its own dict's address (where it has one), the abstract heap behind it -/
abbrev XK := Value → Option Addr → Hp → Prop
abbrev St := List (Option V)
abbrev VK := V → Hp → Prop
/-- an expression's reading; a test's; an argument list's -/
abbrev TE := St → Hp → VK → Prop
abbrev TT := St → Hp → (Bool → Hp → Prop) → Prop
abbrev TA := St → Hp → (List V → Hp → Prop) → Prop
/-- what is wanted behind a statement -/
structure Ends where
  nx : St → Hp → Prop
  rt : VK
  bk : St → Hp → Prop := fun _ _ => False
  ct : St → Hp → Prop := fun _ _ => False
abbrev TS := Ends → St → Hp → Prop

def EP (X : Cx) (pins : List (Addr × Obj)) (σ : St) (Q : VK) (u : Value) (s' : Shared) : Prop := ∃ v H', Inv X pins σ H' s' ∧ RelV v u ∧ Q v H'
def TP (X : Cx) (pins : List (Addr × Obj)) (σ : St) (Q : Bool → Hp → Prop) (b : Bool) (s' : Shared) : Prop := ∃ H', Inv X pins σ H' s' ∧ Q b H'
def AP (X : Cx) (pins : List (Addr × Obj)) (σ : St) (Q : List V → Hp → Prop) (us : List Value) (s' : Shared) : Prop := ∃ vs H', Inv X pins σ H' s' ∧ Vals vs us ∧ Q vs H'
def SP (X : Cx) (pins : List (Addr × Obj)) (D : Ends) (f : Flow) (s' : Shared) : Prop :=
  match f with
  | .next => ∃ σ' H', Inv X pins σ' H' s' ∧ D.nx σ' H'
  | .brk => ∃ σ' H', Inv X pins σ' H' s' ∧ D.bk σ' H'
  | .cont => ∃ σ' H', Inv X pins σ' H' s' ∧ D.ct σ' H'
  | .ret u => ∃ v σ' H', Inv X pins σ' H' s' ∧ RelV v u ∧ D.rt v H'

def PE (X : Cx) (e : Expr) (t : TE) : Prop :=
  ∀ (pins : List (Addr × Obj)) (s : Shared) (σ : St) (H : Hp) (Q : VK), Inv X pins σ H s → t σ H Q → wpAny (model X.prog X.w) X.A (eval e X.env) (EP X pins σ Q) X.xe s
def PT (X : Cx) (e : Expr) (t : TT) : Prop :=
  ∀ (pins : List (Addr × Obj)) (s : Shared) (σ : St) (H : Hp) (Q : Bool → Hp → Prop), Inv X pins σ H s → t σ H Q → wpAny (model X.prog X.w) X.A (isTrue e X.env (eval e X.env)) (TP X pins σ Q) X.xe s
/-- a test whatever its 'whole' is (and, or) -/
def PW (X : Cx) (e : Expr) (t : TT) : Prop :=
  ∀ (whole : Sem Value) (pins : List (Addr × Obj)) (s : Shared) (σ : St) (H : Hp) (Q : Bool → Hp → Prop), Inv X pins σ H s → t σ H Q → wpAny (model X.prog X.w) X.A (isTrue e X.env whole) (TP X pins σ Q) X.xe s
theorem PW.pt {X : Cx} {e : Expr} {t : TT} (h : PW X e t) : PT X e t := h _
/-- an argument list (no star), from the left -/
def PA (X : Cx) (es : List Expr) (t : TA) : Prop :=
  ∀ (pos : Pos) (pins : List (Addr × Obj)) (s : Shared) (σ : St) (H : Hp) (Q : List V → Hp → Prop), Inv X pins σ H s → t σ H Q → wpAny (model X.prog X.w) X.A (spliced (backTo pos (starEach es X.env))) (AP X pins σ Q) X.xe s
def PS (X : Cx) (st : Stmt) (t : TS) : Prop :=
  ∀ (pins : List (Addr × Obj)) (s : Shared) (σ : St) (H : Hp) (D : Ends), Inv X pins σ H s → t D σ H → wpAny (model X.prog X.w) X.A (exec st X.env) (SP X pins D) X.xe s
def PSs (X : Cx) (st : List Stmt) (t : TS) : Prop :=
  ∀ (pins : List (Addr × Obj)) (s : Shared) (σ : St) (H : Hp) (D : Ends), Inv X pins σ H s → t D σ H → wpAny (model X.prog X.w) X.A (execs st X.env) (SP X pins D) X.xe s
/-- weaken the end -/
theorem thn {α : Type} {t : Sem α} {Q Q' : α → Shared → Prop} {M : Model} {A : Around} {E : Value → Shared → Prop} {s : Shared} (h : wpAny M A t Q E s) (hQ : ∀ a s, Q a s → Q' a s) : wpAny M A t Q' E s := wpAny_mono h hQ fun _ _ x => x
end L2

namespace L2
open PySem PySem.Spec PyProof.Rows
section
variable {X : Cx}

/-! ### names and constants -/
def tVar (i : Nat) : TE := fun σ H Q => ∃ v, σ[i]? = some (some v) ∧ Q v H
def tC (v : V) : TE := fun _ H Q => Q v H
theorem pe_var {i : Nat} {x : Str} {pos : Pos} (hN : X.N[i]? = some x) (hv : Vis X.env.scope x) (hd : (x == ("__debug__" : Str)) = false := by decide) (hcd : (x == ("__classdict__" : Str)) = false := by decide) : PE X (.Name x pos) (tVar i) := by
  intro pins s σ H Q I h
  obtain ⟨v, e, h⟩ := h
  obtain ⟨m, hn, hl⟩ := I.loc
  obtain ⟨u, r, l⟩ := hl i x v hN e hv
  have fin : EP X pins σ Q u s := ⟨v, H, I, r, h⟩
  rcases l with ⟨hk, hm⟩ | ⟨hk, c, hc, hcell⟩
  · exact wpAny_Name (wpAny_loadName_local I.ok.kind hk hn hm fin) hd
  · rcases hk with hk | hk
    · exact wpAny_Name (wpAny_loadName_cell I.ok.kind hk hc hcell fin) hd
    · exact wpAny_Name (wpAny_loadName_free I.ok.kind hk hc hcell fin hcd) hd
theorem pe_int {i j pos} : PE X (.Constant (.int i) j pos) (tC (.int i)) := fun _ _ _ H _ I h => wpAny_Constant_int ⟨.int i, H, I.tok _, ⟨_, rfl⟩, h⟩
theorem pe_bl {b j pos} : PE X (.Constant (.bool b) j pos) (tC (.bl b)) := fun _ _ _ H _ I h => Constant_bool ⟨.bl b, H, I, rfl, h⟩
theorem pe_non {j pos} : PE X (.Constant .none j pos) (tC .non) := fun _ _ _ H _ I h => Constant_none ⟨.non, H, I, rfl, h⟩
theorem pe_str {x j pos} : PE X (.Constant (.str x) j pos) (tC (.str x)) := fun _ _ _ H _ I h => Calls.Constant_str ⟨.str x, H, I.tok _, ⟨_, rfl⟩, h⟩

/-- a global name of the def -/
def Gl (X : Cx) (x : Str) : Prop := X.env.kindOf x = some .globalImplicit
theorem ld_glob {E : Value → Shared → Prop} {pins : List (Addr × Obj)} {s : Shared} {σ : St} {H : Hp} {x : Str} {u : Value} {pos : Pos} {Q : Value → Shared → Prop} (I : Inv X pins σ H s) (hg : Gl X x) (hm : X.mg x = some u) (h : Q u s)
    (hd : (x == ("__debug__" : Str)) = false := by decide) : wpAny (model X.prog X.w) X.A (eval (.Name x pos) X.env) Q E s :=
  Calls.Name_function_global I.ok.kind hg (Calls.loadGlobal_global (by rw [I.ok.glob]; exact I.mod.glob.keeps I.bk) hm h) hd
theorem ld_blt {E : Value → Shared → Prop} {pins : List (Addr × Obj)} {s : Shared} {σ : St} {H : Hp} {x : Str} {u : Value} {pos : Pos} {Q : Value → Shared → Prop} (I : Inv X pins σ H s) (hg : Gl X x) (hm : X.mg x = none) (hv : bootBuiltins x = some u) (h : Q u s)
    (hn : x ≠ "__name__" := by decide) (hd : (x == ("__debug__" : Str)) = false := by decide) : wpAny (model X.prog X.w) X.A (eval (.Name x pos) X.env) Q E s := by
  obtain ⟨mb, h1, h2⟩ := I.mod.blt
  exact Calls.Name_function_global I.ok.kind hg (Calls.loadGlobal_builtin (by rw [I.ok.glob]; exact I.mod.glob.keeps I.bk) hm (by rw [I.ok.blt]; exact h1.keeps I.bk) ((h2 x hn).trans hv) h) hd
/-- a module's constant, a class, a function, as a value -/
theorem pe_glob {x : Str} {v : V} {u : Value} {pos : Pos} (hg : Gl X x) (hm : X.mg x = some u) (r : RelV v u) (hd : (x == ("__debug__" : Str)) = false := by decide) : PE X (.Name x pos) (tC v) :=
  fun _ _ _ H _ I h => ld_glob I hg hm ⟨v, H, I, r, h⟩ hd
theorem pe_bltn {x : Str} {v : V} {u : Value} {pos : Pos} (hg : Gl X x) (hm : X.mg x = none) (hv : bootBuiltins x = some u) (r : RelV v u) (hn : x ≠ "__name__" := by decide) (hd : (x == ("__debug__" : Str)) = false := by decide) : PE X (.Name x pos) (tC v) :=
  fun _ _ _ H _ I h => ld_blt I hg hm hv ⟨v, H, I, r, h⟩ hn hd

/-! ### arithmetic -/
variable {a b : Expr} {ta tb : TE} {pos : Pos}
/-! ### comparisons -/
def PC (X : Cx) (op : CmpOp) (a b : Expr) (t : TE) : Prop :=
  ∀ (pins : List (Addr × Obj)) (s : Shared) (σ : St) (H : Hp) (Q : VK), Inv X pins σ H s → t σ H Q →
    wpAny (model X.prog X.w) X.A (eval a X.env) (fun v s₁ => wpAny (model X.prog X.w) X.A (eval b X.env) (fun u s₂ => wpAny (model X.prog X.w) X.A (compareOp op v u) (EP X pins σ Q) X.xe s₂) X.xe s₁) X.xe s
theorem nobehind (b : Expr) {op : CmpOp} (h : op ≠ .In) (h2 : op ≠ .NotIn) : behindInMarks op b = false := by
  have e1 : (op == CmpOp.In) = false := by cases op <;> first | rfl | exact absurd rfl h
  have e2 : (op == CmpOp.NotIn) = false := by cases op <;> first | rfl | exact absurd rfl h2
  cases b <;> simp [behindInMarks, e1, e2]
/-- is None -/
def tIsN (ta : TE) : TE := fun σ H Q => ta σ H fun x H1 => Q (.bl (decide (x = .non))) H1
def tNotN (ta : TE) : TE := fun σ H Q => ta σ H fun x H1 => Q (.bl (!decide (x = .non))) H1
theorem RelV.none_iff {x : V} {v : Value} (r : RelV x v) : (v == Value.none) = decide (x = .non) := by
  cases x with
  | non => cases r; rfl
  | bl _ => cases r; rfl
  | int _ => obtain ⟨t, rfl⟩ := r; rfl
  | str _ => obtain ⟨t, rfl⟩ := r; rfl
  | byt _ => obtain ⟨t, rfl⟩ := r; rfl
  | flt _ => obtain ⟨t, rfl⟩ := r; rfl
  | ref _ => cases r; rfl
  | ty _ => cases r; rfl
theorem pc_isN {j pos'} (ha : PE X a ta) : PC X .Is a (.Constant .none j pos') (tIsN ta) := by
  intro pins s σ H Q I h
  refine thn (ha pins s σ H _ I h) fun v s1 ⟨x, H1, I1, r1, q1⟩ => ?_
  exact Constant_none (is_none_gen ⟨.bl _, H1, I1, by rw [r1.none_iff]; rfl, q1⟩)
theorem pc_notN {j pos'} (ha : PE X a ta) : PC X .IsNot a (.Constant .none j pos') (tNotN ta) := by
  intro pins s σ H Q I h
  refine thn (ha pins s σ H _ I h) fun v s1 ⟨x, H1, I1, r1, q1⟩ => ?_
  exact Constant_none (isnot_none_gen ⟨.bl _, H1, I1, by rw [r1.none_iff]; rfl, q1⟩)
/-- a comparison as a value, as a test -/
def tB (t : TE) : TT := fun σ H Q => t σ H fun x H1 => ∃ c, x = .bl c ∧ Q c H1
theorem pe_cmp {op : CmpOp} {t : TE} (h : PC X op a b t) (h1 : behindInMarks op b = false := by first | exact nobehind _ (by decide) (by decide) | rfl) : PE X (.Compare a [op] [b] pos) t := fun pins s σ H Q I hw => wpAny_Compare1 (h pins s σ H Q I hw) h1
theorem pt_cmp {op : CmpOp} {t : TE} (h : PC X op a b t) (h1 : behindInMarks op b = false := by first | exact nobehind _ (by decide) (by decide) | rfl) : PT X (.Compare a [op] [b] pos) (tB t) := by
  intro pins s σ H Q I hw
  refine wpAny_isTrue_Compare1 (thn (h pins s σ H _ I hw) fun v s1 h1 => thn h1 fun u s2 h2 => thn h2 fun c s3 ⟨x, H1, I1, r1, q1⟩ => ?_) h1
  obtain ⟨d, rfl, q⟩ := q1
  cases r1
  exact wpAny_truthy_bool ⟨H1, I1, q⟩
/-- an expression whose value is a bool, as a test -/
theorem pt_val {e : Expr} {t : TE} (h : PE X e t) (he : ∀ whole, isTrue e X.env whole = (do let v ← whole; standAt e.pos; holding [v] (truthy v)) := by intro _; rfl) : PT X e (tB t) := by
  intro pins s σ H Q I hw
  refine isTrue_plain (thn (h pins s σ H _ I hw) fun v s1 ⟨x, H1, I1, r1, q1⟩ => ?_) (he _)
  obtain ⟨d, rfl, q⟩ := q1
  cases r1
  exact wpAny_truthy_bool ⟨H1, I1, q⟩

/-! ### and, or, not -/
variable {tA tB' : TT} {rest : List Expr}
def tAnd (t u : TT) : TT := fun σ H Q => t σ H fun c H1 => if c = true then u σ H1 Q else Q false H1
def tOr (t u : TT) : TT := fun σ H Q => t σ H fun c H1 => if c = true then Q true H1 else u σ H1 Q
def tNot (t : TT) : TT := fun σ H Q => t σ H fun c H1 => Q (!c) H1
theorem pw_and1 (ha : PT X a tA) : PW X (.BoolOp .And [a] pos) tA := by
  intro wh pins s σ H Q I h
  refine isTrue_and (thn (ha pins s σ H Q I h) fun c s1 e => ?_)
  cases c with
  | true => exact isTrue_and_nil e
  | false => exact e
theorem pw_or1 (ha : PT X a tA) : PW X (.BoolOp .Or [a] pos) tA := by
  intro wh pins s σ H Q I h
  refine isTrue_or (thn (ha pins s σ H Q I h) fun c s1 e => ?_)
  cases c with
  | false => exact isTrue_or_nil e
  | true => exact e
theorem pw_and (ha : PT X a tA) (hb : PW X (.BoolOp .And (b :: rest) pos) tB') : PW X (.BoolOp .And (a :: b :: rest) pos) (tAnd tA tB') := by
  intro wh pins s σ H Q I h
  refine isTrue_and (thn (ha pins s σ H _ I h) fun c s1 ⟨H1, I1, q1⟩ => ?_)
  cases c with
  | true => exact hb wh pins s1 σ H1 Q I1 q1
  | false => exact ⟨H1, I1, q1⟩
theorem pw_or (ha : PT X a tA) (hb : PW X (.BoolOp .Or (b :: rest) pos) tB') : PW X (.BoolOp .Or (a :: b :: rest) pos) (tOr tA tB') := by
  intro wh pins s σ H Q I h
  refine isTrue_or (thn (ha pins s σ H _ I h) fun c s1 ⟨H1, I1, q1⟩ => ?_)
  cases c with
  | true => exact ⟨H1, I1, q1⟩
  | false => exact hb wh pins s1 σ H1 Q I1 q1
theorem pt_not (ha : PT X a tA) : PT X (.UnaryOp .Not a pos) (tNot tA) := by
  intro pins s σ H Q I h
  exact isTrue_not (ha pins s σ H (fun c H1 => Q (!c) H1) I h)
/-- .. as values (bools) -/
def tAndV (ta tb : TE) : TE := fun σ H Q => ta σ H fun x H1 => ∃ c, x = .bl c ∧ if c = true then tb σ H1 Q else Q (.bl false) H1
def tOrV (ta tb : TE) : TE := fun σ H Q => ta σ H fun x H1 => ∃ c, x = .bl c ∧ if c = true then Q (.bl true) H1 else tb σ H1 Q
def tNotV (ta : TE) : TE := fun σ H Q => ta σ H fun x H1 => ∃ c, x = .bl c ∧ Q (.bl (!c)) H1
/-- a if t else b -/
def tIf (t : TT) (ta tb : TE) : TE := fun σ H Q => t σ H fun c H1 => if c = true then ta σ H1 Q else tb σ H1 Q
theorem pe_ifExp {c : Expr} (hc : PT X c tA) (ha : PE X a ta) (hb : PE X b tb) : PE X (.IfExp c a b pos) (tIf tA ta tb) := by
  intro pins s σ H Q I h
  refine wpAny_IfExp (thn (hc pins s σ H _ I h) fun d s1 ⟨H1, I1, q1⟩ => ?_)
  cases d with
  | true => exact ha pins s1 σ H1 Q I1 q1
  | false => exact hb pins s1 σ H1 Q I1 q1
end
end L2

namespace L2
open PySem PySem.Spec PyProof.Rows

/-! ### a list, a tuple that is read: tracked, frozen, or an object of the module -/
def SqL (K : PySem.W.Frag) (H : Hp) (a : Addr) (xs : List V) : Prop :=
  Rd H a (.lst xs) ∨
    ∃ (o : Obj) (its : Array Value) (n : Nat), K.lookup a = some o ∧ o.cls = .type "list" ∧ o.dict = none ∧ o.data = .seq its n ∧ its.size ≤ sizeLine ∧ Vals xs its.toList
def SqT (K : PySem.W.Frag) (H : Hp) (a : Addr) (xs : List V) : Prop :=
  Rd H a (.tup xs) ∨
    ∃ (o : Obj) (its : Array Value) (n : Nat), K.lookup a = some o ∧ o.cls = .type "tuple" ∧ o.data = .seq its n ∧ its.size ≤ sizeLine ∧ Vals xs its.toList
def absV : Value → Option V
  | .none => some .non
  | .bool b => some (.bl b)
  | .int i _ => some (.int i)
  | .str x _ => some (.str x)
  | .bytes b _ => some (.byt b)
  | .float b _ => some (.flt b)
  | .ref a => some (.ref a)
  | .type n => some (.ty n)
  | _ => none
theorem RelV.abs {x : V} {u : Value} (r : RelV x u) : absV u = some x := by
  cases x with
  | non => cases r; rfl
  | bl _ => cases r; rfl
  | int _ => obtain ⟨t, rfl⟩ := r; rfl
  | str _ => obtain ⟨t, rfl⟩ := r; rfl
  | byt _ => obtain ⟨t, rfl⟩ := r; rfl
  | flt _ => obtain ⟨t, rfl⟩ := r; rfl
  | ref _ => cases r; rfl
  | ty _ => cases r; rfl
theorem RelV.inj {x y : V} {u : Value} (r : RelV x u) (q : RelV y u) : x = y := Option.some.inj (r.abs.symm.trans q.abs)
theorem Vals.inj : ∀ {xs ys : List V} {us : List Value}, Vals xs us → Vals ys us → xs = ys
  | _, _, _, .nil, .nil => rfl
  | _, _, _, .cons r t, .cons r' t' => by rw [r.inj r', Vals.inj t t']
section
variable {X : Cx} {pins : List (Addr × Obj)} {σ : St} {H : Hp} {s : Shared} {a : Addr} {xs ys : List V}
theorem SqL.of {K : PySem.W.Frag} (h : H a = some (.lst xs)) : SqL K H a xs := .inl (.inl h)
theorem SqT.of {K : PySem.W.Frag} (h : H a = some (.tup xs)) : SqT K H a xs := .inl (.inl h)
theorem Inv.list (I : Inv X pins σ H s) (h : SqL X.K H a xs) : ∃ its : List Value, Vals xs its ∧ PlainL s.heap a its.toArray ∧ xs.length ≤ sizeLine := by
  rcases h with h | ⟨o, its, n, hk, hc, hd, hs, hz, r⟩
  · obtain ⟨z, its, n, r, e⟩ := h.ok I.hok
    exact ⟨its, r, ⟨_, n, e, rfl, rfl, rfl⟩, z⟩
  · refine ⟨its.toList, r, ⟨o, n, I.kIn a o hk, hc, hd, by simpa using hs⟩, ?_⟩
    have e := r.length
    simp only [Array.length_toList] at e
    omega
theorem Inv.tuple (I : Inv X pins σ H s) (h : SqT X.K H a xs) : ∃ its : List Value, Vals xs its ∧ IsTup s.heap a its.toArray ∧ xs.length ≤ sizeLine := by
  rcases h with h | ⟨o, its, n, hk, hc, hs, hz, r⟩
  · obtain ⟨z, its, r, p⟩ := h.ok I.hok
    exact ⟨its, r, p, z⟩
  · refine ⟨its.toList, r, ⟨o, I.kIn a o hk, hc, n, by simpa using hs⟩, ?_⟩
    have e := r.length
    simp only [Array.length_toList] at e
    omega
theorem Inv.list_inj (I : Inv X pins σ H s) (h : SqL X.K H a xs) (h' : SqL X.K H a ys) : xs = ys := by
  obtain ⟨its, r, ⟨o, n, e, _, _, d⟩, _⟩ := I.list h
  obtain ⟨its', r', ⟨o', n', e', _, _, d'⟩, _⟩ := I.list h'
  rw [e] at e'; cases e'
  rw [d] at d'
  injection d' with d1 _
  have : its = its' := by simpa using congrArg Array.toList d1
  subst this
  exact r.inj r'
end

/-! ### another wish about exceptions -/
abbrev Cx.wish (X : Cx) (E : Value → Shared → Prop) : Cx := { X with xe := E }
/-- no exception leaves -/
abbrev Cx.nox (X : Cx) : Cx := X.wish fun _ _ => False
theorem Cx.Ok.wish {X : Cx} (ok : X.Ok) (E : Value → Shared → Prop) : (X.wish E).Ok :=
  ⟨ok.mod, ok.kind, ok.glob, ok.blt, ok.above, ok.inj, ok.has, ok.cab, ok.hd, ok.frames, ok.stk, ok.exf, ok.bs, ok.bsz, ok.noex, ok.exfs, ok.funs, ok.frf⟩
theorem Cx.Ok.unwish {X : Cx} {E : Value → Shared → Prop} (ok : (X.wish E).Ok) : X.Ok :=
  ⟨ok.mod, ok.kind, ok.glob, ok.blt, ok.above, ok.inj, ok.has, ok.cab, ok.hd, ok.frames, ok.stk, ok.exf, ok.bs, ok.bsz, ok.noex, ok.exfs, ok.funs, ok.frf⟩
section
variable {X : Cx} {pins : List (Addr × Obj)} {σ : St} {H : Hp} {s : Shared} {E : Value → Shared → Prop}
theorem Inv.wish (I : Inv X pins σ H s) (E : Value → Shared → Prop) : Inv (X.wish E) pins σ H s := ⟨I.ok.wish E, I.os, I.bare, I.base, I.loc, I.cell, I.free, I.freeC, I.pin, I.hok, I.len⟩
theorem Inv.unwish (I : Inv (X.wish E) pins σ H s) : Inv X pins σ H s := ⟨I.ok.unwish, I.os, I.bare, I.base, I.loc, I.cell, I.free, I.freeC, I.pin, I.hok, I.len⟩
theorem SP.unwish {D : Ends} {f : Flow} {s' : Shared} (h : SP (X.wish E) pins D f s') : SP X pins D f s' := by
  cases f with
  | next => obtain ⟨σ', H', I, q⟩ := h; exact ⟨σ', H', I.unwish, q⟩
  | brk => obtain ⟨σ', H', I, q⟩ := h; exact ⟨σ', H', I.unwish, q⟩
  | cont => obtain ⟨σ', H', I, q⟩ := h; exact ⟨σ', H', I.unwish, q⟩
  | ret u => obtain ⟨v, σ', H', I, r, q⟩ := h; exact ⟨v, σ', H', I.unwish, r, q⟩
theorem PE.nox {e : Expr} {t : TE} (h : PE X.nox e t) : PE X e t := fun pins s σ H Q I hw =>
  wpAny_mono (h pins s σ H Q (I.wish _) hw) (fun _ _ ⟨v, H', I', r, q⟩ => ⟨v, H', I'.unwish, r, q⟩) fun _ _ z => False.elim z
theorem PT.nox {e : Expr} {t : TT} (h : PT X.nox e t) : PT X e t := fun pins s σ H Q I hw =>
  wpAny_mono (h pins s σ H Q (I.wish _) hw) (fun _ _ ⟨H', I', q⟩ => ⟨H', I'.unwish, q⟩) fun _ _ z => False.elim z
theorem PSs.nox {st : List Stmt} {t : TS} (h : PSs X.nox st t) : PSs X st t := fun pins s σ H D I hw =>
  wpAny_mono (h pins s σ H D (I.wish _) hw) (fun _ _ q => q.unwish) fun _ _ z => False.elim z
end

/-! ### blocks and small statements -/
section
variable {X : Cx} {st : Stmt} {rest : List Stmt} {t u : TS} {e : Expr} {te : TE} {pos : Pos}
def tNext : TS := fun D σ H => D.nx σ H
def tSeq (t u : TS) : TS := fun D σ H => t { D with nx := u D } σ H
theorem pss_nil : PSs X [] tNext := fun _ _ σ H _ I h => wpAny_execs_nil ⟨σ, H, I, h⟩
theorem pss_cons (h1 : PS X st t) (h2 : PSs X rest u) : PSs X (st :: rest) (tSeq t u) := by
  intro pins s σ H D I h
  refine wpAny_execs_cons (thn (h1 pins s σ H { D with nx := u D } I h) fun f s1 q => ?_)
  cases f with
  | next =>
    obtain ⟨σ', H', I', q⟩ := q
    exact h2 pins s1 σ' H' D I' q
  | ret v => exact q
  | brk => exact q
  | cont => exact q
theorem pss_one (h1 : PS X st t) : PSs X [st] t := by
  intro pins s σ H D I h
  refine wpAny_execs_cons (thn (h1 pins s σ H D I h) fun f s1 q => ?_)
  cases f with
  | next => exact wpAny_execs_nil q
  | ret v => exact q
  | brk => exact q
  | cont => exact q
def tBreak : TS := fun D σ H => D.bk σ H
def tCont : TS := fun D σ H => D.ct σ H
/-- in a def's body nothing is shown -/
theorem Inv.quiet {pins : List (Addr × Obj)} {σ : St} {H : Hp} {s : Shared} (I : Inv X pins σ H s) : interactive X.env = false := by simp [interactive, I.ok.kind]
/-- an expression whose value is dropped -/
def tDrop (te : TE) : TS := fun D σ H => te σ H fun _ H1 => D.nx σ H1
theorem ps_expr (he : PE X e te) (hs : swapsWith e none pos.line X.env = pure false := by rfl) : PS X (.Expr e pos) (tDrop te) := by
  intro pins s σ H D I h
  exact wpAny_Expr_any (thn (he pins s σ H _ I h) fun v s1 ⟨x, H1, I1, r1, q1⟩ => ⟨σ, H1, I1, q1⟩) I.quiet hs
def tRet (te : TE) : TS := fun D σ H => te σ H D.rt
theorem ps_ret (he : PE X e te) : PS X (.Return (some e) pos) (tRet te) := by
  intro pins s σ H D I h
  exact wpAny_Return_some (thn (he pins s σ H _ I h) fun v s1 ⟨x, H1, I1, r1, q1⟩ => ⟨x, σ, H1, I1, r1, q1⟩)
def tRetN : TS := fun D _ H => D.rt .non H
def tIfS (c : TT) (t u : TS) : TS := fun D σ H => c σ H fun b H1 => if b = true then t D σ H1 else u D σ H1
theorem ps_if {c : Expr} {a b : List Stmt} {tc : TT} (hc : PT X c tc) (ha : PSs X a t) (hb : PSs X b u) : PS X (.If c a b pos) (tIfS tc t u) := by
  intro pins s σ H D I h
  refine wpAny_If (thn (hc pins s σ H _ I h) fun d s1 ⟨H1, I1, q1⟩ => ?_)
  cases d with
  | true => exact ha pins s1 σ H1 D I1 q1
  | false => exact hb pins s1 σ H1 D I1 q1
end

/-! ### targets -/
abbrev TG := V → St → Hp → (St → Hp → Prop) → Prop
abbrev TGs := List V → St → Hp → (St → Hp → Prop) → Prop
def PG (X : Cx) (target : Expr) (t : TG) : Prop :=
  ∀ (pins : List (Addr × Obj)) (s : Shared) (σ : St) (H : Hp) (v : V) (u : Value) (Q : St → Hp → Prop), Inv X pins σ H s → RelV v u → t v σ H Q →
    wpAny (model X.prog X.w) X.A (assign target X.env u) (fun _ s' => ∃ σ' H', Inv X pins σ' H' s' ∧ Q σ' H') X.xe s
/-- several targets, one after another -/
def PGs (X : Cx) (ts : List Expr) (t : TGs) : Prop :=
  ∀ (pins : List (Addr × Obj)) (s : Shared) (σ : St) (H : Hp) (vs : List V) (us : List Value) (Q : St → Hp → Prop), Inv X pins σ H s → Vals vs us → t vs σ H Q →
    wpAny (model X.prog X.w) X.A (assignInOrder ((assignEach ts X.env).map (·.2)) us) (fun _ s' => ∃ σ' H', Inv X pins σ' H' s' ∧ Q σ' H') X.xe s
/-- o[i] = v, by values -/
abbrev TSet := V → V → V → Hp → (Hp → Prop) → Prop
section
variable {X : Cx} {pos : Pos}
def gName (i : Nat) : TG := fun v σ H Q => Q (σ.set i (some v)) H
theorem pg_name {i : Nat} {x : Str} (hN : X.N.Nodup) (hi : X.N[i]? = some x) (hx : Loc X.env.scope x) (hf : X.fn x = true ∨ X.env.scope.names.lookup x = some .local := by first | exact .inl rfl | exact .inr rfl | assumption) : PG X (.Name x pos) (gName i) := by
  intro pins s σ H v u Q I r h
  exact wpAny_assign_Name (store_ok I hN hi hx r (fun s' I' => ⟨_, H, I', h⟩) hf)
def gNil : TGs := fun vs σ H Q => vs = [] ∧ Q σ H
def gCons (t : TG) (u : TGs) : TGs := fun vs σ H Q => ∃ v r, vs = v :: r ∧ t v σ H fun σ' H' => u r σ' H' Q
theorem pgs_nil : PGs X [] gNil := by
  intro pins s σ H vs us Q I r h
  obtain ⟨e, h⟩ := h
  subst e
  cases r
  exact assignInOrder_nil ⟨σ, H, I, h⟩
theorem pgs_cons {e : Expr} {es : List Expr} {t : TG} {u : TGs} (h1 : PG X e t) (h2 : PGs X es u)
    (hs : (assignEach (e :: es) X.env).map (·.2) = assign e X.env :: (assignEach es X.env).map (·.2) := by rfl) : PGs X (e :: es) (gCons t u) := by
  intro pins s σ H vs us Q I r h
  obtain ⟨v, vr, e1, h⟩ := h
  subst e1
  cases r with
  | cons r rr =>
    rw [hs]
    refine assignInOrder_cons (thn (h1 pins s σ H _ _ _ I r h) fun _ s1 ⟨σ1, H1, I1, q1⟩ => ?_)
    exact h2 pins s1 σ1 H1 _ _ Q I1 rr q1
/-- (a, b, ..) = a tuple of that length -/
def gTup (K : PySem.W.Frag) (n : Nat) (t : TGs) : TG := fun v σ H Q => ∃ a xs, v = .ref a ∧ SqT K H a xs ∧ xs.length = n ∧ t xs σ H Q
theorem pg_tup {es : List Expr} {k : Nat} {t : TGs} {n : Nat} (hc : X.calm = true) (h : PGs X es t)
    (hn : (assignEach es X.env).length = n := by rfl) (hst : (assignEach es X.env).findIdx? (·.1) = none := by rfl) : PG X (.Tuple es k pos) (gTup X.K n t) := by
  intro pins s σ H v u Q I r hw
  obtain ⟨a, xs, e1, hq, hl, hw⟩ := hw
  subst e1
  cases r
  obtain ⟨its, rv, ht, hz⟩ := I.tuple hq
  refine assign_Tuple_tuple (I.ok.hd hc) ht (by simp [hn, ← hl, rv.length]) hst fun h' hx => ?_
  have I1 : Inv X pins σ H { s with heap := h' } := I.kept (t' := s.toks) fun b o e => hx b o (Nat.ne_of_lt (Heap.lt_size e)) e
  exact h pins _ σ H xs _ Q I1 (by simpa using rv) hw
/-- o[i] = .. -/
def gSub (to ti : TE) (t : TSet) : TG := fun v σ H Q => to σ H fun o H1 => ti σ H1 fun i H2 => t o i v H2 fun H3 => Q σ H3
/-- target = value -/
def tAsg (te : TE) (g : TG) : TS := fun D σ H => te σ H fun x H1 => g x σ H1 D.nx
theorem ps_asg {tg e : Expr} {te : TE} {g : TG} (he : PE X e te) (hg : PG X tg g) (hs : swapsWithSole [tg] e pos.line X.env = pure false := by rfl) (hw : swappedStores [tg] e X.env = pure none := by rfl)
    (h1 : (assignEach [tg] X.env).map (·.2) = [assign tg X.env] := by rfl) : PS X (.Assign [tg] e pos) (tAsg te g) := by
  intro pins s σ H D I h
  refine wpAny_Assign_stores (thn (he pins s σ H _ I h) fun v s1 ⟨x, H1, I1, r1, q1⟩ => ?_) hs hw
  rw [h1]
  exact thn (hg pins s1 σ H1 x v _ I1 r1 q1) fun _ s2 q => q
/-- name = value -/
theorem ps_set {i : Nat} {x : Str} {e : Expr} {te : TE} {pos' : Pos} (hN : X.N.Nodup) (hi : X.N[i]? = some x) (hx : Loc X.env.scope x) (he : PE X e te) (hs : swapsWith e (some (.Name x pos')) pos.line X.env = pure false := by rfl) (hf : X.fn x = true ∨ X.env.scope.names.lookup x = some .local := by first | exact .inl rfl | exact .inr rfl | assumption) :
    PS X (.Assign [.Name x pos'] e pos) (tAsg te (gName i)) := by
  intro pins s σ H D I h
  refine wpAny_Assign_Name (thn (he pins s σ H _ I h) fun v s1 ⟨y, H1, I1, r1, q1⟩ => ?_) hs
  exact store_ok I1 hN hi hx r1 (fun s2 I2 => ⟨_, H1, I2, q1⟩) hf
end

/-! ### while -/
section
variable {X : Cx} {pos : Pos}
/-- the invariant W with its measure -/
def tWhile (c : TT) (tb : TS) : TS := fun D σ H => ∃ W : Nat → St → Hp → Prop, (∃ m, W m σ H) ∧ ∀ m σ H, W m σ H →
  c σ H fun b H1 => if b = true then ∃ N : St → Hp → Prop, (∀ σ' H', N σ' H' → ∃ m', m' < m ∧ W m' σ' H') ∧ tb { D with nx := N, ct := N, bk := D.nx } σ H1 else D.nx σ H1
theorem ps_while {c : Expr} {body : List Stmt} {tc : TT} {tb : TS} (hp : PassesOwn (model X.prog X.w) X.A X.env X.xe) (hc : PT X c tc) (hb : PSs X body tb) : PS X (.While c body [] pos) (tWhile tc tb) := by
  intro pins s σ H D I h
  obtain ⟨W, ⟨m0, w0⟩, turn⟩ := h
  refine wpAny_While (codeAny_whileLoop (fun n s' => ∃ σ' H', Inv X pins σ' H' s' ∧ W n σ' H') ?_ m0 ⟨σ, H, I, w0⟩)
  rintro n s1 ⟨σ1, H1, I1, w1⟩
  refine wpAny_passesOwn hp (thn (hc pins s1 σ1 H1 _ I1 (turn n σ1 H1 w1)) fun b s2 ⟨H2, I2, q2⟩ => ?_)
  cases b with
  | true =>
    obtain ⟨N, hN, q2⟩ := q2
    rw [if_pos rfl]
    refine wpAny_passesOwn hp (thn (hb pins s2 σ1 H2 _ I2 q2) fun f s3 q3 => ?_)
    cases f with
    | next =>
      obtain ⟨σ3, H3, I3, n3⟩ := q3
      obtain ⟨m', hm, w3⟩ := hN σ3 H3 n3
      exact ⟨m', hm, σ3, H3, I3, w3⟩
    | cont =>
      obtain ⟨σ3, H3, I3, n3⟩ := q3
      obtain ⟨m', hm, w3⟩ := hN σ3 H3 n3
      exact ⟨m', hm, σ3, H3, I3, w3⟩
    | brk => exact q3
    | ret v => exact q3
  | false =>
    rw [if_neg Bool.false_ne_true]
    exact wpAny_execs_nil ⟨σ1, H2, I2, q2⟩
end

/-! ### what a loop or a comprehension walks -/
/-- at turn i: it yields x (the heap may grow), or it stops -/
structure It where
  go : Nat → Hp → Prop
  yld : Nat → Hp → V → Hp → Prop
  stop : Nat → Hp → Prop
/-- the iterator's own objects may turn: they are not the frame's, not pinned, younger than the entry (or a comprehension's own) -/
def FpOk (X : Cx) (pins : List (Addr × Obj)) (H : Hp) (b : Addr) : Prop :=
  H b = none ∧ b ≠ X.env.locals ∧ b ∉ X.fs ∧ (b ∈ X.ex ∨ X.s₀.heap.objs.size ≤ b) ∧ (∀ x c, X.env.cells.lookup x = some c → c ≠ b) ∧ ∀ p ∈ X.pn ++ pins, p.1 ≠ b
theorem Inv.fpOk {X : Cx} {pins : List (Addr × Obj)} {σ : St} {H H' : Hp} {s : Shared} {b : Addr} (I : Inv X pins σ H s) (hb : s.heap.objs.size ≤ b) (hn : H' b = none) : FpOk X pins H' b := by
  refine ⟨hn, Nat.ne_of_gt (Nat.lt_of_lt_of_le I.lt hb), I.nofs hb, .inr (Nat.le_trans I.sz hb), fun x c e z => ?_, fun p hp z => ?_⟩
  · obtain ⟨v, q⟩ := I.cell x c e
    exact absurd (Nat.lt_of_lt_of_le q.lt (by rw [z]; exact hb)) (Nat.lt_irrefl _)
  · exact absurd (Nat.lt_of_lt_of_le (Heap.lt_size (I.pin p hp).1) (by rw [z]; exact hb)) (Nat.lt_irrefl _)
structure Turn (P : Program) (w : World) (K : PySem.W.Frag) (tg : Expr) (J : It) (fp : List Addr) (it : Addr) (tn : Nat → Heap → Prop) : Prop where
  mem : it ∈ fp
  obj : ∀ i h, tn i h → ∀ b ∈ fp, ∃ o, h.get? b = some o ∧ ∀ v, o.data ≠ .cell v
  keep : ∀ i h h', tn i h → (∀ b ∈ fp, ∀ o, h.get? b = some o → h'.get? b = some o) → tn i h'
  item : ∀ (X : Cx), X.prog = P → X.w = w → X.K = K → X.calm = true → ∀ (i : Nat) (pins : List (Addr × Obj)) (s : Shared) (σ : St) (H : Hp) (E : Value → Shared → Prop), Inv X pins σ H s → (∀ b ∈ fp, FpOk X pins H b) → tn i s.heap → J.go i H →
    wpAny (model P w) X.A (pyNext (.ref it)) (fun r s1 => ∃ u, r = some u ∧
      wpAny (model P w) X.A (letOwnedTupleGo tg (.ref it) u) (fun _ s2 => ∃ x H', Inv X pins σ H' s2 ∧ RelV x u ∧ J.yld i H x H' ∧ tn (i + 1) s2.heap ∧ ∀ b ∈ fp, H' b = none) E s1) E s
  done : ∀ (X : Cx), X.prog = P → X.w = w → X.K = K → X.calm = true → ∀ (i : Nat) (pins : List (Addr × Obj)) (s : Shared) (σ : St) (H : Hp) (E : Value → Shared → Prop), Inv X pins σ H s → (∀ b ∈ fp, FpOk X pins H b) → tn i s.heap → J.stop i H →
    wpAny (model P w) X.A (pyNext (.ref it)) (fun r s1 => r = none ∧ Inv X pins σ H s1) E s
  self : ∀ (A : Around) (i : Nat) (s : Shared) (Q : Value → Shared → Prop) (E : Value → Shared → Prop), tn i s.heap → Q (.ref it) s → wpAny (model P w) A (pyIter (.ref it)) Q E s
abbrev TI := St → Hp → (It → Hp → Prop) → Prop
/-- an iterator has come -/
def PIE (X : Cx) (pins : List (Addr × Obj)) (σ : St) (tg : Expr) (R : It → Hp → Prop) (itv : Value) (s2 : Shared) : Prop :=
  ∃ (it : Addr) (fp : List Addr) (tn : Nat → Heap → Prop) (J : It) (H' : Hp), itv = .ref it ∧ Inv X pins σ H' s2 ∧ Turn X.prog X.w X.K tg J fp it tn ∧ tn 0 s2.heap ∧ (∀ b ∈ fp, FpOk X pins H' b) ∧ R J H'
def PI (X : Cx) (tg iter : Expr) (wi : TI) : Prop :=
  ∀ (pins : List (Addr × Obj)) (s : Shared) (σ : St) (H : Hp) (R : It → Hp → Prop), Inv X pins σ H s → wi σ H R →
    wpAny (model X.prog X.w) X.A (eval iter X.env) (fun v s1 => wpAny (model X.prog X.w) X.A (pyIter v) (PIE X pins σ tg R) X.xe s1) X.xe s

/-- the step ahead of the store is nothing for an iterator that keeps no tuple -/
theorem go_of {M : Model} {A : Around} {E : Value → Shared → Prop} {s : Shared} {tg : Expr} {it : Addr} {u : Value} {o : Obj} {n : String} {vs : Array Value} {Q : Unit → Shared → Prop} (ho : s.heap.get? it = some o) (hc : o.cls = .type n) (hd : o.data = .fields vs)
    (hn : ["enumerate", "zip", "dict_itemiterator", "dict_reverseitemiterator", "odict_iterator", "itertools.zip_longest", "itertools.pairwise"].contains n = false) (hQ : Q () s) : wpAny M A (letOwnedTupleGo tg (.ref it) u) Q E s := by
  unfold letOwnedTupleGo
  cases tg <;> first
    | exact wpAny_pure hQ
    | (cases u <;> first
        | exact wpAny_pure hQ
        | (refine wpAny_bind (wpAny_load ho ?_)
           rw [hc, hd]
           show wpAny M A (if (["enumerate", "zip", "dict_itemiterator", "dict_reverseitemiterator", "odict_iterator", "itertools.zip_longest", "itertools.pairwise"].contains n && vs[0]? == some (rawInt _)) = true then _ else _) Q E s
           rw [if_neg (by intro h; rw [hn, Bool.false_and] at h; cases h)]
           exact wpAny_pure hQ))

/-- the list at a, as it stands at each turn (a loop may append to it) -/
def Itl (K : PySem.W.Frag) (a : Addr) : It :=
  ⟨fun i H => ∃ xs x, SqL K H a xs ∧ xs[i]? = some x, fun i H x H' => H' = H ∧ ∀ xs, SqL K H a xs → xs[i]? = some x, fun i H => ∃ xs, SqL K H a xs ∧ xs.length ≤ i⟩
/-- lo, lo + 1, .. (n of them) -/
def Itr (lo : Int) (n : Nat) : It := ⟨fun i _ => i < n, fun i H x H' => H' = H ∧ x = .int (lo + i), fun i _ => n ≤ i⟩
theorem turn_list {P : Program} {w : World} {K : PySem.W.Frag} {tg : Expr} (a it : Addr) : Turn P w K tg (Itl K a) [it] it (fun i h => h.IsListIter it a i) where
  mem := by simp
  obj := fun i h st b hb => by
    have e : b = it := by simpa using hb
    subst e
    obtain ⟨o, e, c, d⟩ := st
    exact ⟨o, e, fun v z => by rw [d] at z; cases z⟩
  keep := fun i h h' st k => st.at fun o e => k it (by simp) o e
  item := by
    intro X hP hw hK hc i pins s σ H E I hf st hg
    subst hP hw hK
    obtain ⟨xs, x, hq, hx⟩ := hg
    obtain ⟨its, rv, p, hz⟩ := I.list hq
    obtain ⟨u, hu, ru⟩ := rv.get hx
    obtain ⟨f0, f1, f2, f3, f4, f5⟩ := hf it (by simp)
    refine wpAny_pyNext_list_item st p.isList (x := u) (by simpa using hu) fun h' st' sb => ?_
    have I1 : Inv X pins σ H { s with heap := h' } := I.turned (t' := s.toks) (fun b o hb e => (sb.2 b hb).trans e) f0 f1 f3 f4 f5
    obtain ⟨o, e, c, d⟩ := id st'
    exact ⟨u, rfl, go_of (s := { s with heap := h' }) e c d (by decide) ⟨x, H, I1, ru, ⟨rfl, fun ys hy => by rw [I.list_inj hy hq]; exact hx⟩, st', fun b hb => (hf b hb).1⟩⟩
  done := by
    intro X hP hw hK hc i pins s σ H E I hf st hg
    subst hP hw hK
    obtain ⟨xs, hq, hx⟩ := hg
    obtain ⟨its, rv, p, hz⟩ := I.list hq
    obtain ⟨f0, f1, f2, f3, f4, f5⟩ := hf it (by simp)
    have hl := rv.length
    exact wpAny_pyNext_list_end (I.ok.hd hc) st p.isList (by simp; omega) fun h' eb => ⟨rfl, I.turned (t' := s.toks) (fun b o hb e => eb b o hb e) f0 f1 f3 f4 f5⟩
  self := fun _ _ _ _ _ st h => wpAny_pyIter_listiter st h
theorem turn_range {P : Program} {w : World} {K : PySem.W.Frag} {tg : Expr} (it : Addr) (lo : Int) (n : Nat) : Turn P w K tg (Itr lo n) [it] it (fun i h => IsRangeIter h it (lo + (i : Nat) * 1) ((n : Int) - (i : Nat)) 1) where
  mem := by simp
  obj := fun i h st b hb => by
    have e : b = it := by simpa using hb
    subst e
    exact ⟨_, st, fun v z => by
      have z' : Data.fields _ = Data.cell v := z
      cases z'⟩
  keep := fun i h h' st k => k it (by simp) _ st
  item := by
    intro X hP hw hK hc i pins s σ H E I hf st hg
    subst hP hw hK
    obtain ⟨f0, f1, f2, f3, f4, f5⟩ := hf it (by simp)
    have W := Walks.range (prog := X.prog) (w := X.w) (I.ok.hd hc) it lo 1 n
    refine W.item i s _ _ hg st fun v h' tk hv st' kk => ?_
    obtain ⟨t, rfl⟩ := hv
    have I1 : Inv X pins σ H { s with heap := h', toks := tk } := I.turned (fun b o hb e => kk b o (by simpa using hb) e) f0 f1 f3 f4 f5
    refine ⟨_, rfl, go_of (s := { s with heap := h', toks := tk }) (n := "range_iterator") st' rfl rfl (by decide) ⟨.int (lo + i), H, I1, ⟨t, ?_⟩, ⟨rfl, rfl⟩, st', fun b hb => (hf b hb).1⟩⟩
    rw [Int.mul_one]
  done := by
    intro X hP hw hK hc i pins s σ H E I hf st hg
    subst hP hw hK
    obtain ⟨f0, f1, f2, f3, f4, f5⟩ := hf it (by simp)
    exact wpAny_pyNext_range_end (I.ok.hd hc) st (by have : n ≤ i := hg; omega) fun h' eb => ⟨rfl, I.turned (t' := s.toks) (fun b o hb e => eb b o hb e) f0 f1 f3 f4 f5⟩
  self := fun _ _ _ _ _ st h => wpAny_pyIter_rangeiter st h
end L2

namespace L2
open PySem PySem.Spec PyProof.Rows
section
variable {X : Cx} {tg : Expr}
def iList (K : PySem.W.Frag) (tl : TE) : TI := fun σ H R => tl σ H fun x H1 => ∃ a, x = .ref a ∧ (∃ xs, SqL K H1 a xs) ∧ R (Itl K a) H1
theorem pi_list {l : Expr} {tl : TE} (hl : PE X l tl) : PI X tg l (iList X.K tl) := by
  intro pins s σ H R I h
  refine thn (hl pins s σ H _ I h) fun v s1 ⟨x, H1, I1, r1, q1⟩ => ?_
  obtain ⟨a, e, ⟨xs, hq⟩, q⟩ := q1
  subst e
  cases r1
  obtain ⟨its, rv, p, hz⟩ := I1.list hq
  refine wpAny_pyIter_list p.isList ?_
  refine ⟨s1.heap.objs.size, [s1.heap.objs.size], _, _, H1, rfl, I1.kept (t' := s1.toks) fun b o e => Heap.get?_push_of_some _ e, turn_list a _, ⟨_, Heap.get?_push_size _ rfl, rfl, rfl⟩, fun b hb => ?_, q⟩
  have e : b = s1.heap.objs.size := by simpa using hb
  subst e
  exact I1.fpOk (Nat.le_refl _) (I1.hok.fresh (Nat.le_refl _))
/-- a range object just made, walked -/
theorem range_it {pins : List (Addr × Obj)} {σ : St} {H : Hp} {s : Shared} {R : It → Hp → Prop} {E : Value → Shared → Prop} {lo hi : Int} {t u v : Tok} {tk : Nat} (I : Inv X pins σ H s) (h1 : -(2 ^ 62) ≤ lo) (h2 : lo < 2 ^ 62) (h3 : -(2 ^ 62) ≤ hi) (h4 : hi < 2 ^ 62)
    (q : R (Itr lo (hi - lo).toNat) H) : wpAny (model X.prog X.w) X.A (pyIter (.ref s.heap.objs.size)) (PIE X pins σ tg R) E { s with heap := s.heap.push { cls := .type "range", data := .fields #[.int lo t, .int hi u, .int 1 v] }, toks := tk } := by
  refine wpAny_pyIter_range (IsRange.new ..) (small_one h1 h2 h3 h4) ?_
  have I1 : Inv X pins σ H { s with heap := s.heap.push { cls := .type "range", data := .fields #[.int lo t, .int hi u, .int 1 v] }, toks := tk } := I.kept fun b o e => Heap.get?_push_of_some _ e
  refine ⟨(s.heap.push { cls := .type "range", data := .fields #[.int lo t, .int hi u, .int 1 v] }).objs.size, [(s.heap.push { cls := .type "range", data := .fields #[.int lo t, .int hi u, .int 1 v] }).objs.size], _, _, H, rfl,
    I1.kept (t' := tk) fun b o e => Heap.get?_push_of_some _ e, turn_range _ lo (hi - lo).toNat, ?_, fun b hb => ?_, q⟩
  · have e1 : lo + ((0 : Nat) : Int) * 1 = lo := by simp
    have e2 : (((hi - lo).toNat : Nat) : Int) - ((0 : Nat) : Int) = Builtin.Range.rangeSize lo hi 1 := by rw [rangeSize_one]; split <;> omega
    show IsRangeIter _ _ (lo + ((0 : Nat) : Int) * 1) ((((hi - lo).toNat : Nat) : Int) - ((0 : Nat) : Int)) 1
    rw [e1, e2]
    exact Heap.get?_push_size _ rfl
  · have e : b = (s.heap.push { cls := .type "range", data := .fields #[.int lo t, .int hi u, .int 1 v] }).objs.size := by simpa using hb
    subst e
    exact I1.fpOk (Nat.le_refl _) (I1.hok.fresh (Nat.le_refl _))
def iRng1 (ta : TA) : TI := fun σ H R => ta σ H fun vs H1 => ∃ j : Int, vs = [.int j] ∧ -(2 ^ 62) ≤ j ∧ j < 2 ^ 62 ∧ R (Itr 0 j.toNat) H1
def iRng2 (ta : TA) : TI := fun σ H R => ta σ H fun vs H1 => ∃ i j : Int, vs = [.int i, .int j] ∧ (-(2 ^ 62) ≤ i ∧ i < 2 ^ 62 ∧ -(2 ^ 62) ≤ j ∧ j < 2 ^ 62) ∧ R (Itr i (j - i).toNat) H1
theorem pi_range1 {a : Expr} {ta : TA} {p pos : Pos} (hg : Gl X "range") (hm : X.mg "range" = none) (ha : PA X [a] ta) (hs : starEach [a] X.env = [(false, eval a X.env)] := by rfl) : PI X tg (.Call (.Name "range" p) [a] [] pos) (iRng1 ta) := by
  intro pins s σ H R I h
  refine Call_ (ld_blt I hg hm boot_range (PyProof.Rows.callWith_type1 (thn (ha pos pins s σ H _ I h) fun us s1 ⟨vs, H1, I1, r1, q1⟩ => ?_) hs rfl))
  obtain ⟨j, e, q1, q2, q⟩ := q1
  subst e
  cases r1 with
  | cons r rr =>
    cases rr
    obtain ⟨t, rfl⟩ := r
    exact call_range_1 (range_it I1 (by omega) (by omega) q1 q2 (by simpa using q))
theorem pi_range2 {a b : Expr} {ta : TA} {p pos : Pos} (hg : Gl X "range") (hm : X.mg "range" = none) (ha : PA X [a, b] ta) (hs : starEach [a, b] X.env = [(false, eval a X.env), (false, eval b X.env)] := by rfl) (hs2 : starEach [b] X.env = [(false, eval b X.env)] := by rfl) :
    PI X tg (.Call (.Name "range" p) [a, b] [] pos) (iRng2 ta) := by
  intro pins s σ H R I h
  refine Call_ (ld_blt I hg hm boot_range (PyProof.Rows.callWith_type1 (thn (ha pos pins s σ H _ I h) fun us s1 ⟨vs, H1, I1, r1, q1⟩ => ?_) (by rw [hs, hs2]) (by rw [hs2]; rfl)))
  obtain ⟨i, j, e, ⟨q1, q2, q3, q4⟩, q⟩ := q1
  subst e
  cases r1 with
  | cons r rr =>
    cases rr with
    | cons r' rr =>
      cases rr
      obtain ⟨t, rfl⟩ := r
      obtain ⟨t', rfl⟩ := r'
      exact call_range_2 (range_it I1 q1 q2 q3 q4 q)

/-! ### for -/
/-- W: the invariant by the turn and a measure; N: what the body is to reach -/
def tFor (wi : TI) (g : TG) (tb : TS) : TS := fun D σ H => wi σ H fun J H1 => ∃ W : Nat → Nat → St → Hp → Prop, (∃ m, W 0 m σ H1) ∧ ∀ i m σ H, W i m σ H →
  (J.stop i H ∧ D.nx σ H) ∨ (J.go i H ∧ ∃ N : St → Hp → Prop, (∀ σ' H', N σ' H' → ∃ m', m' < m ∧ W (i + 1) m' σ' H') ∧ ∀ x H', J.yld i H x H' → g x σ H' fun σ2 H2 => tb { D with nx := N, ct := N, bk := D.nx } σ2 H2)
/-- the records at fp as they stand -/
def pinsAt (fp : List Addr) (h : Heap) : List (Addr × Obj) := fp.filterMap fun b => (h.get? b).map fun o => (b, o)
theorem mem_pinsAt {fp : List Addr} {h : Heap} {b : Addr} {o : Obj} (hb : b ∈ fp) (e : h.get? b = some o) : (b, o) ∈ pinsAt fp h := List.mem_filterMap.mpr ⟨b, hb, by rw [e]; rfl⟩
theorem of_pinsAt {fp : List Addr} {h : Heap} {p : Addr × Obj} (hp : p ∈ pinsAt fp h) : p.1 ∈ fp ∧ h.get? p.1 = some p.2 := by
  obtain ⟨b, hb, e⟩ := List.mem_filterMap.mp hp
  cases q : h.get? b with
  | none => rw [q] at e; cases e
  | some o =>
    rw [q] at e
    have e' : (b, o) = p := Option.some.inj e
    subst e'
    exact ⟨hb, q⟩
theorem Inv.pinned {pins : List (Addr × Obj)} {σ : St} {H : Hp} {s : Shared} {fp : List Addr} (I : Inv X pins σ H s) (hf : ∀ b ∈ fp, FpOk X pins H b) (ho : ∀ b ∈ fp, ∃ o, s.heap.get? b = some o ∧ ∀ v, o.data ≠ .cell v) : Inv X (pins ++ pinsAt fp s.heap) σ H s :=
  I.pins_of fun p hp => (List.mem_append.mp hp).elim (fun z => I.pin p (List.mem_append_right _ z)) fun z => by
    obtain ⟨hb, e⟩ := of_pinsAt z
    obtain ⟨f0, f1, f2, _⟩ := hf p.1 hb
    obtain ⟨o, e', d⟩ := ho p.1 hb
    rw [e] at e'; cases e'
    exact ⟨e, f0, f1, f2, d⟩
theorem Inv.unpinned {pins pl : List (Addr × Obj)} {σ : St} {H : Hp} {s : Shared} (I : Inv X (pins ++ pl) σ H s) : Inv X pins σ H s := I.pins_of fun p hp => I.pin p (List.mem_append_right _ (List.mem_append_left _ hp))
theorem ps_for {iter : Expr} {body : List Stmt} {wi : TI} {g : TG} {tb : TS} {pos : Pos} (hp : PassesOwn (model X.prog X.w) X.A X.env X.xe) (hc : X.calm = true) (hi : PI X tg iter wi) (hg : PG X tg g) (hb : PSs X body tb)
    (hs : ∀ x, foldedSetIterable iter X.env x = pure x := by intro _; rfl) : PS X (.For tg iter body [] pos) (tFor wi g tb) := by
  intro pins s σ H D I h
  refine wpAny_For (thn (hi pins s σ H _ I h) fun v s1 h1 => thn h1 fun itv s2 h2 => ?_) hs
  obtain ⟨it, fp, tn, J, H2, e, I2, T, st2, f2, W, ⟨m0, w0⟩, turn⟩ := h2
  subst e
  -- what stays true of the iterator's objects through the loop
  have stat : ∀ {H' : Hp}, (∀ b ∈ fp, H' b = none) → ∀ b ∈ fp, FpOk X pins H' b := fun hn b hb => ⟨hn b hb, (f2 b hb).2⟩
  refine codeAny_forLoop_any (fun n s' => ∃ i σ' H', Inv X pins σ' H' s' ∧ tn i s'.heap ∧ (∀ b ∈ fp, H' b = none) ∧ W i n σ' H') ?_ m0 ⟨0, σ, H2, I2, st2, fun b hb => (f2 b hb).1, w0⟩
  rintro n s3 ⟨i, σ3, H3, I3, st3, fr3, w3⟩
  rcases turn i n σ3 H3 w3 with ⟨stop, qn⟩ | ⟨go, N, hN, step⟩
  · refine wpAny_passesOwn hp (thn (T.done X rfl rfl rfl hc i pins s3 σ3 H3 X.xe I3 (stat fr3) st3 stop) fun r s4 ⟨hr, I4⟩ => ?_)
    subst hr
    exact wpAny_execs_nil ⟨σ3, H3, I4, qn⟩
  · refine wpAny_passesOwn hp (thn (T.item X rfl rfl rfl hc i pins s3 σ3 H3 X.xe I3 (stat fr3) st3 go) fun r s4 ⟨u, hr, h4⟩ => ?_)
    subst hr
    refine wpAny_passesOwn hp (thn h4 fun _ s5 ⟨x, H5, I5, r5, y5, st5, fr5⟩ => ?_)
    have I5' := I5.pinned (stat fr5) (T.obj _ _ st5)
    refine wpAny_passesOwn hp (thn (hg _ s5 σ3 H5 x u _ I5' r5 (step x H5 y5)) fun _ s6 ⟨σ6, H6, I6, q6⟩ => ?_)
    refine wpAny_passesOwn hp (thn (hb _ s6 σ6 H6 _ I6 q6) fun f s7 q7 => ?_)
    have again : ∀ {σ7 : St} {H7 : Hp}, Inv X (pins ++ pinsAt fp s5.heap) σ7 H7 s7 → N σ7 H7 → ∃ m, m < n ∧ ∃ i σ' H', Inv X pins σ' H' s7 ∧ tn i s7.heap ∧ (∀ b ∈ fp, H' b = none) ∧ W i m σ' H' := fun {σ7 H7} I7 n7 => by
      obtain ⟨m', hm, w7⟩ := hN σ7 H7 n7
      refine ⟨m', hm, i + 1, σ7, H7, I7.unpinned, T.keep _ _ _ st5 fun b hb o e => (I7.pin (b, o) (List.mem_append_right _ (List.mem_append_right _ (mem_pinsAt hb e)))).1, fun b hb => ?_, w7⟩
      obtain ⟨o, e, d⟩ := T.obj _ _ st5 b hb
      exact (I7.pin (b, o) (List.mem_append_right _ (List.mem_append_right _ (mem_pinsAt hb e)))).2.1
    cases f with
    | next => obtain ⟨σ7, H7, I7, n7⟩ := q7; exact again I7 n7
    | cont => obtain ⟨σ7, H7, I7, n7⟩ := q7; exact again I7 n7
    | brk => obtain ⟨σ7, H7, I7, q7⟩ := q7; exact ⟨σ7, H7, I7.unpinned, q7⟩
    | ret v => obtain ⟨x7, σ7, H7, I7, r7, q7⟩ := q7; exact ⟨x7, σ7, H7, I7.unpinned, r7, q7⟩
end

/-! ### the forms one uses -/
/-- over a list that the body leaves as it is -/
theorem for_list {K : PySem.W.Frag} {a : Addr} {xs : List V} {g : TG} {tb : TS} {D : Ends} {σ : St} {H : Hp} (Pv : Nat → St → Hp → Prop) (h0 : Pv 0 σ H) (hl : ∀ i σ H, i ≤ xs.length → Pv i σ H → SqL K H a xs)
    (hs : ∀ i x σ H, xs[i]? = some x → Pv i σ H → g x σ H fun σ2 H2 => tb { D with nx := Pv (i + 1), ct := Pv (i + 1), bk := D.nx } σ2 H2) (hd : ∀ σ H, Pv xs.length σ H → D.nx σ H) :
    ∃ W : Nat → Nat → St → Hp → Prop, (∃ m, W 0 m σ H) ∧ ∀ i m σ H, W i m σ H →
      ((Itl K a).stop i H ∧ D.nx σ H) ∨ ((Itl K a).go i H ∧ ∃ N : St → Hp → Prop, (∀ σ' H', N σ' H' → ∃ m', m' < m ∧ W (i + 1) m' σ' H') ∧ ∀ x H', (Itl K a).yld i H x H' → g x σ H' fun σ2 H2 => tb { D with nx := N, ct := N, bk := D.nx } σ2 H2) := by
  refine ⟨fun i m σ H => m = xs.length - i ∧ i ≤ xs.length ∧ Pv i σ H, ⟨xs.length, by simp, Nat.zero_le _, h0⟩, ?_⟩
  rintro i m σ H ⟨rfl, hi, p⟩
  have q := hl i σ H hi p
  by_cases hlt : i < xs.length
  · refine .inr ⟨⟨xs, xs[i], q, by simp [hlt]⟩, Pv (i + 1), fun σ' H' p' => ⟨xs.length - (i + 1), by omega, rfl, hlt, p'⟩, fun x H' y => ?_⟩
    obtain ⟨e, y⟩ := y
    subst e
    exact hs i x σ _ (y xs q) p
  · have e : i = xs.length := by omega
    subst e
    exact .inl ⟨⟨xs, q, Nat.le_refl _⟩, hd σ H p⟩
theorem for_range {lo : Int} {n : Nat} {g : TG} {tb : TS} {D : Ends} {σ : St} {H : Hp} (Pv : Nat → St → Hp → Prop) (h0 : Pv 0 σ H)
    (hs : ∀ i σ H, i < n → Pv i σ H → g (.int (lo + i)) σ H fun σ2 H2 => tb { D with nx := Pv (i + 1), ct := Pv (i + 1), bk := D.nx } σ2 H2) (hd : ∀ σ H, Pv n σ H → D.nx σ H) :
    ∃ W : Nat → Nat → St → Hp → Prop, (∃ m, W 0 m σ H) ∧ ∀ i m σ H, W i m σ H →
      ((Itr lo n).stop i H ∧ D.nx σ H) ∨ ((Itr lo n).go i H ∧ ∃ N : St → Hp → Prop, (∀ σ' H', N σ' H' → ∃ m', m' < m ∧ W (i + 1) m' σ' H') ∧ ∀ x H', (Itr lo n).yld i H x H' → g x σ H' fun σ2 H2 => tb { D with nx := N, ct := N, bk := D.nx } σ2 H2) := by
  refine ⟨fun i m σ H => m = n - i ∧ i ≤ n ∧ Pv i σ H, ⟨n, by simp, Nat.zero_le _, h0⟩, ?_⟩
  rintro i m σ H ⟨rfl, hi, p⟩
  by_cases hlt : i < n
  · refine .inr ⟨hlt, Pv (i + 1), fun σ' H' p' => ⟨n - (i + 1), by omega, rfl, hlt, p'⟩, fun x H' y => ?_⟩
    obtain ⟨e, y⟩ := y
    subst e y
    exact hs i σ _ hlt p
  · have e : i = n := by omega
    subst e
    exact .inl ⟨Nat.le_refl _, hd σ H p⟩
end L2

namespace L2
open PySem PySem.Spec PyProof.Rows

abbrev R2 := V → V → Hp → VK → Prop
/-- a two-place operation on values: f is binaryOp op, inplaceOp op or compareOp op -/
def OpR (X : Cx) (f : Value → Value → Sem Value) (r : R2) : Prop :=
  ∀ (pins : List (Addr × Obj)) (s : Shared) (σ : St) (H : Hp) (x y : V) (v u : Value) (Q : VK), Inv X pins σ H s → RelV x v → RelV y u → r x y H Q →
    wpAny (model X.prog X.w) X.A (f v u) (EP X pins σ Q) X.xe s
/-- a call of a value that is known (a builtin, a type) with values -/
def CallR (X : Cx) (f : Value) (r : List V → Hp → VK → Prop) : Prop :=
  ∀ (pins : List (Addr × Obj)) (s : Shared) (σ : St) (H : Hp) (xs : List V) (us : List Value) (Q : VK), Inv X pins σ H s → Vals xs us → r xs H Q →
    wpAny (model X.prog X.w) X.A (call f us) (EP X pins σ Q) X.xe s
def tOp (r : R2) (ta tb : TE) : TE := fun σ H Q => ta σ H fun x H1 => tb σ H1 fun y H2 => r x y H2 Q
def tUn (r : V → Hp → VK → Prop) (ta : TE) : TE := fun σ H Q => ta σ H fun x H1 => r x H1 Q
/-- ints in, under C, and a value out -/
def rI (C : Int → Int → Prop) (g : Int → Int → V) : R2 := fun x y H Q => ∃ i j, x = .int i ∧ y = .int j ∧ C i j ∧ Q (g i j) H
def rI0 (g : Int → Int → V) : R2 := fun x y H Q => ∃ i j, x = .int i ∧ y = .int j ∧ Q (g i j) H
def rU (g : Int → V) : V → Hp → VK → Prop := fun x H Q => ∃ i, x = .int i ∧ Q (g i) H

section
variable {X : Cx} {a b c : Expr} {ta tb tc : TE} {pos : Pos}

theorem binT (ha : PE X a ta) (hb : PE X b tb) {pins : List (Addr × Obj)} {s : Shared} {σ : St} {H : Hp} {R : V → V → Hp → Prop} (I : Inv X pins σ H s)
    (h : ta σ H fun x H1 => tb σ H1 fun y H2 => R x y H2) {Q : Value → Shared → Prop} {f : Value → Value → Sem Value}
    (hf : ∀ v u s2 x y H2, Inv X pins σ H2 s2 → RelV x v → RelV y u → R x y H2 → wpAny (model X.prog X.w) X.A (f v u) Q X.xe s2) :
    wpAny (model X.prog X.w) X.A (eval a X.env) (fun v s₁ => wpAny (model X.prog X.w) X.A (eval b X.env) (fun u s₂ => wpAny (model X.prog X.w) X.A (f v u) Q X.xe s₂) X.xe s₁) X.xe s := by
  refine thn (ha pins s σ H _ I h) fun v s1 ⟨x, H1, I1, r1, q1⟩ => ?_
  refine thn (hb pins s1 σ H1 _ I1 q1) fun u s2 ⟨y, H2, I2, r2, q2⟩ => ?_
  exact hf v u s2 x y H2 I2 r1 r2 q2

theorem pe_op {op : Operator} {r : R2} (ho : OpR X (binaryOp op) r) (ha : PE X a ta) (hb : PE X b tb) : PE X (.BinOp a op b pos) (tOp r ta tb) := by
  intro pins s σ H Q I h
  exact wpAny_BinOp (binT ha hb I h fun v u s2 x y H2 I2 rx ry q => ho pins s2 σ H2 x y v u Q I2 rx ry q)
/-! ### ints -/
theorem opI {f : Value → Value → Sem Value} {C : Int → Int → Prop} {g : Int → Int → Int}
    (rule : ∀ (i j : Int) (t u : Tok) (s : Shared) (Q : Value → Shared → Prop) (E : Value → Shared → Prop), C i j → Q (.int (g i j) s.toks) { s with toks := s.toks + 1 } → wpAny (model X.prog X.w) X.A (f (.int i t) (.int j u)) Q E s) :
    OpR X f (rI C fun i j => .int (g i j)) := by
  intro pins s σ H x y v u Q I rx ry h
  obtain ⟨i, j, rfl, rfl, hc, q⟩ := h
  obtain ⟨t, rfl⟩ := rx
  obtain ⟨t', rfl⟩ := ry
  exact rule i j t t' s _ _ hc ⟨.int (g i j), H, I.tok _, ⟨_, rfl⟩, q⟩
theorem opI0 {f : Value → Value → Sem Value} {g : Int → Int → Int}
    (rule : ∀ (i j : Int) (t u : Tok) (s : Shared) (Q : Value → Shared → Prop) (E : Value → Shared → Prop), Q (.int (g i j) s.toks) { s with toks := s.toks + 1 } → wpAny (model X.prog X.w) X.A (f (.int i t) (.int j u)) Q E s) :
    OpR X f (rI0 fun i j => .int (g i j)) := by
  intro pins s σ H x y v u Q I rx ry h
  obtain ⟨i, j, rfl, rfl, q⟩ := h
  obtain ⟨t, rfl⟩ := rx
  obtain ⟨t', rfl⟩ := ry
  exact rule i j t t' s _ _ ⟨.int (g i j), H, I.tok _, ⟨_, rfl⟩, q⟩
theorem opB0 {f : Value → Value → Sem Value} {g : Int → Int → Bool}
    (rule : ∀ (i j : Int) (t u : Tok) (s : Shared) (Q : Value → Shared → Prop) (E : Value → Shared → Prop), Q (.bool (g i j)) s → wpAny (model X.prog X.w) X.A (f (.int i t) (.int j u)) Q E s) :
    OpR X f (rI0 fun i j => .bl (g i j)) := by
  intro pins s σ H x y v u Q I rx ry h
  obtain ⟨i, j, rfl, rfl, q⟩ := h
  obtain ⟨t, rfl⟩ := rx
  obtain ⟨t', rfl⟩ := ry
  exact rule i j t t' s _ _ ⟨.bl (g i j), H, I, rfl, q⟩

def CDiv (i j : Int) : Prop := 0 < j ∧ j < 1073741824
def CMul (i j : Int) : Prop := (-(2 ^ 64) < i ∧ i < 2 ^ 64) ∨ (-(2 ^ 64) < j ∧ j < 2 ^ 64)
theorem CMul.ok {i j : Int} (h : CMul i j) : IntMulOk i j := by
  rcases h with ⟨h1, h2⟩ | ⟨h1, h2⟩
  · exact .of_left (intBits_le_64 h1 h2)
  · exact .of_right (intBits_le_64 h1 h2)
theorem two_pow_nn (k : Nat) : (0 : Int) ≤ 2 ^ k := by
  rw [two_pow_cast]
  exact Int.natCast_nonneg _

theorem op_add : OpR X (binaryOp .Add) (rI0 fun i j => .int (i + j)) := opI0 fun _ _ _ _ _ _ _ q => add_int q
theorem op_sub : OpR X (binaryOp .Sub) (rI0 fun i j => .int (i - j)) := opI0 fun _ _ _ _ _ _ _ q => sub_int q
/-- // by a positive divisor -/
theorem op_fdiv : OpR X (binaryOp .FloorDiv) (rI CDiv fun i j => .int (i / j)) := opI fun i j _ _ _ _ _ hc q => by
  have h1 : (0 : Int) < j := hc.1
  have h2 : j < 1073741824 := hc.2
  exact floordiv_int (by omega) (by rw [Int.fdiv_eq_ediv_of_nonneg i (by omega)]; exact q) (.inl (PyProof.noPylong_small (by omega)))
/-- % by a positive divisor of any size -/
theorem op_mod : OpR X (binaryOp .Mod) (rI (fun _ j => 0 < j) fun i j => .int (i % j)) := opI fun i j _ _ _ _ _ hc q => by
  have h1 : (0 : Int) < j := hc
  exact mod_int' (by omega) (by rw [Int.fmod_eq_emod_of_nonneg i (by omega)]; exact q)
theorem op_shr : OpR X (binaryOp .RShift) (rI (fun _ j => 0 ≤ j) fun i j => .int (i / 2 ^ j.toNat)) := opI fun i j _ _ _ _ _ hc q =>
  rshift_int hc (by rw [Int.fdiv_eq_ediv_of_nonneg i (two_pow_nn _)]; exact q)
/-! ### bools among ints: n += (a < b) -/
end

/-! ### comparisons -/
/-- the scalars that == tells apart as data does -/
def scal : V → V → Bool
  | .non, .non => true | .non, .int _ => true | .int _, .non => true | .non, .bl _ => true | .bl _, .non => true | .non, .str _ => true | .str _, .non => true
  | .int _, .int _ => true | .bl _, .bl _ => true | .str _, .str _ => true | .byt _, .byt _ => true
  | .int _, .str _ => true | .str _, .int _ => true | .bl _, .str _ => true | .str _, .bl _ => true
  | _, _ => false
def rEq : R2 := fun x y H Q => scal x y = true ∧ Q (.bl (decide (x = y))) H
def rNe : R2 := fun x y H Q => scal x y = true ∧ Q (.bl (!decide (x = y))) H

theorem dec_int {i j : Int} : decide (V.int i = V.int j) = (i == j) := by
  rw [Bool.eq_iff_iff]
  simp
theorem dec_bl {i j : Bool} : decide (V.bl i = V.bl j) = (i == j) := by
  rw [Bool.eq_iff_iff]
  simp
theorem dec_str {i j : Str} : decide (V.str i = V.str j) = (i == j) := by
  rw [Bool.eq_iff_iff]
  simp
theorem dec_byt {i j : Array UInt8} : decide (V.byt i = V.byt j) = (i.toList == j.toList) := by
  rw [Bool.eq_iff_iff]
  cases i
  cases j
  simp

section
variable {X : Cx} {a b c : Expr} {ta tb tc : TE} {pos : Pos}
theorem fin_bl {pins : List (Addr × Obj)} {σ : St} {H : Hp} {s : Shared} {Q : VK} {k k' : Bool} (I : Inv X pins σ H s) (q : Q (.bl k) H) (e : k = k') : EP X pins σ Q (.bool k') s := by
  subst e
  exact ⟨.bl k, H, I, rfl, q⟩
theorem op_eq : OpR X (compareOp .Eq) rEq := by
  intro pins s σ H x y v u Q I rx ry h
  obtain ⟨hs, q⟩ := h
  cases x with
  | non =>
    cases rx
    cases y with
    | non => cases ry; exact PySem.EqNone.eq_none_none (fin_bl I q (by simp))
    | bl j => cases ry; exact PySem.EqNone.eq_none_bool (fin_bl I q (by simp))
    | int j => obtain ⟨t', rfl⟩ := ry; exact PySem.EqNone.eq_none_int (fin_bl I q (by simp))
    | str j => obtain ⟨t', rfl⟩ := ry; exact PySem.EqNone.eq_none_str (fin_bl I q (by simp))
    | _ => exact absurd (show false = true from hs) Bool.false_ne_true
  | bl i =>
    cases rx
    cases y with
    | non => cases ry; exact PySem.EqNone.eq_bool_none (fin_bl I q (by simp))
    | bl j => cases ry; exact eq_bool (fin_bl I q dec_bl)
    | str j => obtain ⟨t', rfl⟩ := ry; exact PySem.EqMixed.eq_bool_str (fin_bl I q (by simp))
    | _ => exact absurd (show false = true from hs) Bool.false_ne_true
  | int i =>
    obtain ⟨t, rfl⟩ := rx
    cases y with
    | non => cases ry; exact PySem.EqNone.eq_int_none (fin_bl I q (by simp))
    | int j => obtain ⟨t', rfl⟩ := ry; exact eq_int (fin_bl I q dec_int)
    | str j => obtain ⟨t', rfl⟩ := ry; exact PySem.EqMixed.eq_int_str (fin_bl I q (by simp))
    | _ => exact absurd (show false = true from hs) Bool.false_ne_true
  | str i =>
    obtain ⟨t, rfl⟩ := rx
    cases y with
    | non => cases ry; exact PySem.EqNone.eq_str_none (fin_bl I q (by simp))
    | bl j => cases ry; exact PySem.EqMixed.eq_str_bool (fin_bl I q (by simp))
    | int j => obtain ⟨t', rfl⟩ := ry; exact PySem.EqMixed.eq_str_int (fin_bl I q (by simp))
    | str j => obtain ⟨t', rfl⟩ := ry; exact eq_str (fin_bl I q dec_str)
    | _ => exact absurd (show false = true from hs) Bool.false_ne_true
  | byt i =>
    obtain ⟨t, rfl⟩ := rx
    cases y with
    | byt j => obtain ⟨t', rfl⟩ := ry; exact PySem.W.eq_bytes (fin_bl I q dec_byt)
    | _ => exact absurd (show false = true from hs) Bool.false_ne_true
  | _ => cases y <;> exact absurd (show false = true from hs) Bool.false_ne_true
theorem op_ne : OpR X (compareOp .NotEq) rNe := by
  intro pins s σ H x y v u Q I rx ry h
  obtain ⟨hs, q⟩ := h
  cases x with
  | non =>
    cases rx
    cases y with
    | non => cases ry; exact PySem.EqNone.ne_none_none (fin_bl I q (by simp))
    | bl j => cases ry; exact PySem.EqNone.ne_none_bool (fin_bl I q (by simp))
    | int j => obtain ⟨t', rfl⟩ := ry; exact PySem.EqNone.ne_none_int (fin_bl I q (by simp))
    | str j => obtain ⟨t', rfl⟩ := ry; exact PySem.EqNone.ne_none_str (fin_bl I q (by simp))
    | _ => exact absurd (show false = true from hs) Bool.false_ne_true
  | bl i =>
    cases rx
    cases y with
    | non => cases ry; exact PySem.EqNone.ne_bool_none (fin_bl I q (by simp))
    | bl j => cases ry; exact ne_bool (fin_bl I q (congrArg not dec_bl))
    | str j => obtain ⟨t', rfl⟩ := ry; exact PySem.EqMixed.ne_bool_str (fin_bl I q (by simp))
    | _ => exact absurd (show false = true from hs) Bool.false_ne_true
  | int i =>
    obtain ⟨t, rfl⟩ := rx
    cases y with
    | non => cases ry; exact PySem.EqNone.ne_int_none (fin_bl I q (by simp))
    | int j => obtain ⟨t', rfl⟩ := ry; exact ne_int (fin_bl I q (congrArg not dec_int))
    | str j => obtain ⟨t', rfl⟩ := ry; exact PySem.EqMixed.ne_int_str (fin_bl I q (by simp))
    | _ => exact absurd (show false = true from hs) Bool.false_ne_true
  | str i =>
    obtain ⟨t, rfl⟩ := rx
    cases y with
    | non => cases ry; exact PySem.EqNone.ne_str_none (fin_bl I q (by simp))
    | bl j => cases ry; exact PySem.EqMixed.ne_str_bool (fin_bl I q (by simp))
    | int j => obtain ⟨t', rfl⟩ := ry; exact PySem.EqMixed.ne_str_int (fin_bl I q (by simp))
    | str j => obtain ⟨t', rfl⟩ := ry; exact ne_str (fin_bl I q (congrArg not dec_str))
    | _ => exact absurd (show false = true from hs) Bool.false_ne_true
  | byt i =>
    obtain ⟨t, rfl⟩ := rx
    cases y with
    | byt j => obtain ⟨t', rfl⟩ := ry; exact PySem.W.ne_bytes (fin_bl I q (congrArg not dec_byt))
    | _ => exact absurd (show false = true from hs) Bool.false_ne_true
  | _ => cases y <;> exact absurd (show false = true from hs) Bool.false_ne_true

theorem op_lt : OpR X (compareOp .Lt) (rI0 fun i j => .bl (decide (i < j))) := opB0 fun _ _ _ _ _ _ _ q => lt_int q
theorem op_gt : OpR X (compareOp .Gt) (rI0 fun i j => .bl (decide (j < i))) := opB0 fun _ _ _ _ _ _ _ q => gt_int q
theorem op_ge : OpR X (compareOp .GtE) (rI0 fun i j => .bl (decide (j ≤ i))) := opB0 fun _ _ _ _ _ _ _ q => ge_int q
/-- two rules for one operation: by cases -/
theorem OpR.or {f : Value → Value → Sem Value} {r r' : R2} (h : OpR X f r) (h' : OpR X f r') : OpR X f (fun x y H Q => r x y H Q ∨ r' x y H Q) := by
  intro pins s σ H x y v u Q I rx ry q
  rcases q with q | q
  · exact h pins s σ H x y v u Q I rx ry q
  · exact h' pins s σ H x y v u Q I rx ry q

theorem nomark (b : Expr) {op : CmpOp} (h : op ≠ .In := by decide) (h2 : op ≠ .NotIn := by decide) : behindInMarks op b = false := by
  have e1 : (op == CmpOp.In) = false := by cases op <;> first | rfl | exact absurd rfl h
  have e2 : (op == CmpOp.NotIn) = false := by cases op <;> first | rfl | exact absurd rfl h2
  cases b <;> simp [behindInMarks, e1, e2]
/-- a comparison as a value; hm: nomark b, or (for in, not in) by with_unfolding_all rfl -/
theorem pe_cmpR {op : CmpOp} {r : R2} (ho : OpR X (compareOp op) r) (ha : PE X a ta) (hb : PE X b tb) (hm : behindInMarks op b = false) : PE X (.Compare a [op] [b] pos) (tOp r ta tb) := by
  intro pins s σ H Q I h
  exact wpAny_Compare1 (binT ha hb I h fun v u s2 x y H2 I2 rx ry q => ho pins s2 σ H2 x y v u Q I2 rx ry q) hm
/-- a reading of a value as a test -/
def tTest (t : TE) : TT := fun σ H Q => t σ H fun x H' => ∃ k, x = .bl k ∧ Q k H'
theorem pt_cmpR {op : CmpOp} {r : R2} (ho : OpR X (compareOp op) r) (ha : PE X a ta) (hb : PE X b tb) (hm : behindInMarks op b = false) : PT X (.Compare a [op] [b] pos) (tTest (tOp r ta tb)) := by
  intro pins s σ H Q I h
  refine wpAny_isTrue_Compare1 (thn (ha pins s σ H _ I h) fun v s1 ⟨x, H1, I1, r1, q1⟩ => thn (hb pins s1 σ H1 _ I1 q1) fun u s2 ⟨y, H2, I2, r2, q2⟩ =>
    thn (ho pins s2 σ H2 x y v u _ I2 r1 r2 q2) fun c s3 ⟨z, H3, I3, r3, k, e, q3⟩ => ?_) hm
  subst e
  cases r3
  exact wpAny_truthy_bool ⟨H3, I3, q3⟩
/-! ### truth -/
theorem line63 : (sizeLine : Nat) < 2 ^ 63 := by rw [sizeLine_eq]; decide
/-! ### strs and bytes -/
theorem op_add_str : OpR X (binaryOp .Add) (fun x y H Q => ∃ i j, x = .str i ∧ y = .str j ∧ i.length + j.length ≤ sizeLine ∧ Q (.str (i ++ j)) H) := by
  intro pins s σ H x y v u Q I rx ry h
  obtain ⟨i, j, rfl, rfl, hz, q⟩ := h
  obtain ⟨t, rfl⟩ := rx
  obtain ⟨t', rfl⟩ := ry
  exact add_str (fun t' tk => ⟨.str (i ++ j), H, I.tok _, ⟨_, rfl⟩, q⟩) hz
/-! ### scalar builtins, by CallR -/
theorem vals1 {x : V} {us : List Value} (r : Vals [x] us) : ∃ u, us = [u] ∧ RelV x u := by
  cases r with
  | cons r1 r2 => cases r2; exact ⟨_, rfl, r1⟩
theorem vals2 {x y : V} {us : List Value} (r : Vals [x, y] us) : ∃ u w', us = [u, w'] ∧ RelV x u ∧ RelV y w' := by
  cases r with
  | cons r1 r2 =>
    cases r2 with
    | cons r3 r4 => cases r4; exact ⟨_, _, rfl, r1, r3⟩
theorem call_max2 (hc : X.calm = true) : CallR X (.builtin "max") (fun xs H Q => ∃ i j, xs = [.int i, .int j] ∧ Q (.int (if j > i then j else i)) H) := by
  intro pins s σ H xs us Q I r h
  obtain ⟨i, j, rfl, q⟩ := h
  obtain ⟨u, w', rfl, ⟨t, rfl⟩, ⟨t', rfl⟩⟩ := vals2 r
  refine max_two_ints (I.ok.hd hc) fun h' tk k => ⟨_, H, I.kept k, ?_, q⟩
  by_cases hj : j > i
  · rw [if_pos hj, if_pos hj]; exact ⟨_, rfl⟩
  · rw [if_neg hj, if_neg hj]; exact ⟨_, rfl⟩
theorem call_int1 : CallR X (.type "int") (fun xs H Q => (∃ i, xs = [.int i] ∧ Q (.int i) H) ∨ ∃ k, xs = [.bl k] ∧ Q (.int (if k then 1 else 0)) H) := by
  intro pins s σ H xs us Q I r h
  rcases h with ⟨i, rfl, q⟩ | ⟨k, rfl, q⟩
  · obtain ⟨u, rfl, t, rfl⟩ := vals1 r
    exact call_int_int ⟨.int i, H, I, ⟨_, rfl⟩, q⟩
  · obtain ⟨u, rfl, r1⟩ := vals1 r
    cases r1
    exact call_int_bool ⟨.int (if k then 1 else 0), H, I.tok _, ⟨_, rfl⟩, q⟩
end
end L2

namespace L2
open PySem PySem.Spec PyProof.Rows

/-! ### an instance, its attributes a map -/
structure ObjM (h : Heap) (x dx C : Addr) (mA : Str → Option Value) : Prop where
  obj : h.get? x = some (PySem.W.instObj C dx)
  ns : h.Ns1 dx mA
  ne : dx ≠ x

theorem lookIn_ns {h : Heap} {dx : Addr} {mA : Str → Option Value} (n : h.Ns1 dx mA) : ∃ od, h.get? dx = some od ∧ ∀ name, PySem.W.lookIn name od = some (mA name) := by
  obtain ⟨o, es, ep, ho, hd, hk, _, hm⟩ := n
  refine ⟨o, ho, fun name => ?_⟩
  have e := hm name
  unfold nsFind findBy at e
  rw [← Array.find?_toList] at e
  unfold PySem.W.lookIn
  rw [hd]
  dsimp only
  split
  · rename_i y q
    rw [q] at e
    exact congrArg some e
  · rename_i q
    rw [q] at e
    have a : es.toList.any (·.refKey) = false := by
      rw [List.any_eq_false]
      intro y hy
      obtain ⟨z, t, hkey⟩ := hk y (Array.mem_toList_iff.mp hy)
      simp [DictEntry.refKey, hkey]
    have a' : ¬ es.toList.any (·.refKey) = true := by rw [a]; exact Bool.false_ne_true
    rw [if_neg a']
    exact congrArg some e

theorem ObjM.look {h : Heap} {x dx C : Addr} {mA : Str → Option Value} (I : ObjM h x dx C mA) : ∃ od, PySem.W.InstAt h x (PySem.W.instObj C dx) C (some od) ∧ ∀ name, PySem.W.lookIn name od = some (mA name) :=
  let ⟨od, ho, hl⟩ := lookIn_ns I.ns
  ⟨od, ⟨I.obj, rfl, rfl, ho⟩, hl⟩

section
variable {prog : Program} {w : World} {A : Around} {E : Value → Shared → Prop} {s : Shared} {K : PySem.W.Frag} {x dx C f : Addr} {mA : Str → Option Value} {name : Str} {v : Value}

end

/-! ### the attributes as a list of pairs -/
section
variable {P : Program} {w : World} {H H' : Hp} {h h' : Heap} {a C dx : Addr} {fs fs' : List (Str × V)}
theorem ins_get (hok : HOk P w H h) (e : H a = some (.ins C dx fs)) : ∃ mA, ObjM h a dx C mA ∧ (∀ f, RelO (fs.lookup f) (mA f)) ∧ PySem.Within mA (fs.map (·.1)) ∧ fs.length ≤ 1000 ∧ H dx = some (.own a) := by
  obtain ⟨d, z, ne, ob, mA, n, r, q⟩ := (show ObjOk P w H h a (.ins C dx fs) from hok a _ e)
  exact ⟨mA, ⟨ob, n, ne⟩, r, q, z, d⟩
end

/-! ### what of the text a class must have -/
structure Cls (K : PySem.W.Frag) (C : Addr) : Prop where
  pg : PySem.W.plainGet K C Str.empty = true
  hd : PySem.W.hasDictIn K C = true
  po : PySem.W.plainOver K C = true
  sa : PySem.W.findIn K (.ref C) "__setattr__" = some (some (.builtin "object.__setattr__"))
theorem Cls.get {K : PySem.W.Frag} {C : Addr} (c : Cls K C) (f : Str) : PySem.W.plainGet K C f = true := c.pg
/-- a constant of the class -/
structure Con (K : PySem.W.Frag) (C : Addr) (f : Str) (v : V) (u : Value) : Prop where
  at_ : PySem.W.findIn K (.ref C) f = some (some u)
  rel : RelV v u
  get : PySem.W.specialIn K u "__get__" = some none
  cp : PySem.W.copiedNames.contains f = false
/-- a method: a plain def of the class or of one above it -/
structure Meth (K : PySem.W.Frag) (C : Addr) (m : Str) (f : Addr) : Prop where
  at_ : PySem.W.findIn K (.ref C) m = some (some (.ref f))
  fn : PySem.W.isFn K (.ref f) = true
  kp : PySem.W.keepIn K (.ref f) = true

section
variable {X : Cx} {pins : List (Addr × Obj)} {σ : St} {H : Hp} {s : Shared} {a C dx : Addr} {fs : List (Str × V)} {f : Str} {v : V} {A : Around} {E : Value → Shared → Prop}

/-- a new instance, tracked, without attributes -/
theorem Inv.made (I : Inv X pins σ H s) : Inv X pins σ (upd (upd H s.heap.objs.size (.own (s.heap.objs.size + 1))) (s.heap.objs.size + 1) (.ins C s.heap.objs.size []))
    { s with heap := (s.heap.push PySem.W.emptyDict).push (PySem.W.instObj C s.heap.objs.size) } := by
  have e1 : (s.heap.push PySem.W.emptyDict).get? s.heap.objs.size = some PySem.W.emptyDict := Heap.get?_push_size s.heap rfl
  have e2 : ((s.heap.push PySem.W.emptyDict).push (PySem.W.instObj C s.heap.objs.size)).get? (s.heap.objs.size + 1) = some (PySem.W.instObj C s.heap.objs.size) := by
    have := Heap.get?_push_size (s.heap.push PySem.W.emptyDict) (o := PySem.W.instObj C s.heap.objs.size) rfl
    rwa [Heap.size_push] at this
  have e3 : (s.heap.push PySem.W.emptyDict).Ns s.heap.objs.size (fun _ => none) := ⟨PySem.W.emptyDict, #[], _, e1, rfl, (fun e he => absurd he (by simp)), fun _ => rfl⟩
  have I1 := I.laid (a := s.heap.objs.size) (o := .own (s.heap.objs.size + 1)) (h' := s.heap.push PySem.W.emptyDict) (t' := s.toks) (fun b u q => Heap.get?_push_of_some _ q) (Nat.le_refl _) ⟨_, e1⟩
  refine I1.laid (a := s.heap.objs.size + 1) (o := .ins C s.heap.objs.size []) (t' := s.toks) (fun b u q => Heap.get?_push_of_some _ q) (Nat.le_of_eq (Heap.size_push _ _)) ?_
  have ne : s.heap.objs.size ≠ s.heap.objs.size + 1 := Nat.ne_of_lt (Nat.lt_succ_self _)
  refine ⟨by rw [upd_ne ne, upd_same], Nat.zero_le _, ne, e2, fun _ => none, (Heap.Ns1.of_empty e3).at fun o q => Heap.get?_push_of_some _ q, fun _ => True.intro, fun y hy => absurd rfl hy⟩

end

/-! ### readings and rules -/
section
variable {X : Cx} {o e value : Expr} {f : Str} {pos pos' tpos : Pos} {ta tv : TE}
end

/-! ### isinstance -/
section
variable {X : Cx} {pins : List (Addr × Obj)} {σ : St} {H : Hp} {s : Shared} {A : Around} {E : Value → Shared → Prop} {Q : Value → Shared → Prop} {c : Value} {b : Bool}
/-- the type of a value, as the fragment's deciders take it; for an instance its class -/
inductive TyOf (K : PySem.W.Frag) (H : Hp) : V → Value → Prop where
  | non : TyOf K H .non (.type "NoneType")
  | bl (x : Bool) : TyOf K H (.bl x) (.type "bool")
  | int (i : Int) : TyOf K H (.int i) (.type "int")
  | str (x : Str) : TyOf K H (.str x) (.type "str")
  | flt (x : UInt64) : TyOf K H (.flt x) (.type "float")
  | lst {a : Addr} {xs : List V} (e : H a = some (.lst xs)) : TyOf K H (.ref a) (.type "list")
  | frz {a : Addr} {o : Obj} {xs : List V} (e : H a = some (.frz o (.lst xs))) : TyOf K H (.ref a) (.type "list")
  | tup {a : Addr} {xs : List V} (e : H a = some (.tup xs)) : TyOf K H (.ref a) (.type "tuple")
  | dK {a : Addr} {kvs : List (Key × V)} (e : H a = some (.dK kvs)) : TyOf K H (.ref a) (.type "dict")
  | dT {a : Addr} {kvs : List (List Key × V)} (e : H a = some (.dT kvs)) : TyOf K H (.ref a) (.type "dict")
  | ins {a C dx : Addr} {fs : List (Str × V)} (e : H a = some (.ins C dx fs)) (cl : Cls K C) (ha : PySem.W.findIn K (.ref C) "__class__" = some (some (.builtin "object.__class__")))
      (hn : PySem.W.specialIn K (.builtin "object.__class__") "__get__" = some (some (.builtin "getset_descriptor.__get__"))) (htk : PySem.W.takesIn K (.builtin "object.__class__") = some true)
      (hm : PySem.W.mroIn K C (.type "object") = some true) : TyOf K H (.ref a) (.ref C)
/-- isinstance(x, c) for one class c, a built-in or an own one: kitOne's answer -/
theorem isinst_ok {x : V} {u t : Value} (I : Inv X pins σ H s) (rx : RelV x u) (ty : TyOf X.K H x t) (e : PySem.W.kitOne X.K t c = some b) (h : ∀ tk, Q (.bool b) { s with toks := tk }) :
    wpAny (model X.prog X.w) A (call (.builtin "isinstance") [u, c]) Q E s := by
  cases ty with
  | non => cases (show u = Value.none from rx); exact PySem.W.kia_one PySem.W.kitx_none I.kIn True.intro e (fun z => nomatch z) h
  | bl y => cases (show u = Value.bool y from rx); exact PySem.W.kia_one PySem.W.kitx_bool I.kIn True.intro e (fun z => nomatch z) h
  | int i => obtain ⟨t, q⟩ := (show ∃ t, u = Value.int i t from rx); cases q; exact PySem.W.kia_one PySem.W.kitx_int I.kIn True.intro e (fun z => nomatch z) h
  | str y => obtain ⟨t, q⟩ := (show ∃ t, u = Value.str y t from rx); cases q; exact PySem.W.kia_one PySem.W.kitx_str I.kIn True.intro e (fun z => nomatch z) h
  | flt y => obtain ⟨t, q⟩ := (show ∃ t, u = Value.float y t from rx); cases q; exact PySem.W.kia_one PySem.W.kitx_float I.kIn True.intro e (fun z => nomatch z) h
  | @lst a xs ea =>
    cases (show u = Value.ref a from rx)
    obtain ⟨_, _, n, _, h1⟩ := (show ObjOk X.prog X.w H s.heap a (.lst xs) from I.hok a _ ea)
    exact PySem.W.kia_one PySem.W.kitx_list I.kIn ⟨_, h1, rfl⟩ e (fun z => nomatch z) h
  | @frz a ob xs ea =>
    cases (show u = Value.ref a from rx)
    obtain ⟨_, _, _, n, _, h1⟩ := (show ObjOk X.prog X.w H s.heap a (.frz ob (.lst xs)) from I.hok a _ ea)
    exact PySem.W.kia_one PySem.W.kitx_list I.kIn ⟨_, h1, rfl⟩ e (fun z => nomatch z) h
  | @tup a xs ea =>
    cases (show u = Value.ref a from rx)
    obtain ⟨_, _, _, p⟩ := (show ObjOk X.prog X.w H s.heap a (.tup xs) from I.hok a _ ea)
    obtain ⟨o, h1, h2, _⟩ := p
    exact PySem.W.kia_one PySem.W.kitx_tuple I.kIn ⟨o, h1, h2⟩ e (fun z => nomatch z) h
  | @dK a kvs ea =>
    cases (show u = Value.ref a from rx)
    obtain ⟨_, _, vs, _, p⟩ := (show ObjOk X.prog X.w H s.heap a (.dK kvs) from I.hok a _ ea)
    obtain ⟨o, es, ep, h1, h2, _⟩ := p
    exact PySem.W.kia_one PySem.W.kitx_dict I.kIn ⟨o, h1, h2.1⟩ e (fun z => nomatch z) h
  | @dT a kvs ea =>
    cases (show u = Value.ref a from rx)
    obtain ⟨_, _, xs, _, o, es, ep, h1, h2, _⟩ := (show ObjOk X.prog X.w H s.heap a (.dT kvs) from I.hok a _ ea)
    exact PySem.W.kia_one PySem.W.kitx_dict I.kIn ⟨o, h1, h2.1⟩ e (fun z => nomatch z) h
  | @ins a C dx fs ea cl ha hn htk hm =>
    cases (show u = Value.ref a from rx)
    obtain ⟨mA, O, _⟩ := ins_get I.hok ea
    obtain ⟨od, J, _⟩ := O.look
    exact PySem.W.kia_one (PySem.W.kitx_own (cl.get _) cl.hd ha hn htk hm) I.kIn J e (fun z => nomatch z) h
end
end L2

namespace L2
open PySem PySem.Spec PyProof.Rows

/-! ### room -/
structure Room (k : Nat) (A : Around) : Prop where
  hd : A.handled = none
  dp : A.depth + 3 * k + 5 < recursionLimit
  un : A.units + 16 * k + 200 < cLine
theorem Room.mono {j k : Nat} {A : Around} (r : Room k A) (h : j ≤ k) : Room j A := ⟨r.hd, by have := r.dp; omega, by have := r.un; omega⟩
theorem Room.deeper {k : Nat} {A : Around} (r : Room (k + 1) A) (env : Env) : Room k (A.deeper env) :=
  ⟨r.hd, by have := r.dp; show A.depth + 1 + 3 * k + 5 < _; omega, by have := r.un; show A.units + 3 + 16 * k + 200 < _; omega⟩
theorem Room.in1 {k : Nat} {A : Around} (r : Room (k + 1) A) : Room k A.in1 :=
  ⟨r.hd, by have := r.dp; show A.depth + 3 * k + 5 < _; omega, by have := r.un; show A.units + 1 + 16 * k + 200 < _; omega⟩
theorem Room.depth {k : Nat} {A : Around} (r : Room k A) : A.depth < recursionLimit := by have := r.dp; omega
theorem Room.units {k : Nat} {A : Around} (r : Room k A) : A.units + 64 < cLine := by have := r.un; omega
/-! ### argument lists and displays -/
def tNil : TA := fun _ H Q => Q [] H
def tCons (ta : TE) (tr : TA) : TA := fun σ H Q => ta σ H fun x H1 => tr σ H1 fun xs H2 => Q (x :: xs) H2
section
variable {X : Cx} {e : Expr} {es : List Expr} {te : TE} {t : TA} {pos : Pos}
theorem pa_nil : PA X [] tNil := fun _ _ _ _ H Q I h => Calls.spliced_nil ⟨[], H, I, .nil, h⟩
theorem pa_cons (ha : PE X e te) (hr : PA X es t) (hs : starEach (e :: es) X.env = (false, eval e X.env) :: starEach es X.env := by rfl) : PA X (e :: es) (tCons te t) := by
  intro pos pins s σ H Q I h
  rw [hs]
  show wpAny _ _ (spliced ((false, eval e X.env) :: backTo pos (starEach es X.env))) _ _ s
  refine Calls.spliced_cons (thn (ha pins s σ H _ I h) fun u s1 ⟨x, H1, I1, r1, q1⟩ => ?_)
  exact thn (hr pos pins s1 σ H1 _ I1 q1) fun us s2 ⟨xs, H2, I2, r2, q2⟩ => ⟨x :: xs, H2, I2, .cons r1 r2, q2⟩

/-- a tuple, a list of written items -/
def tTup (t : TA) : TE := fun σ H Q => t σ H fun xs H1 => xs.length ≤ sizeLine ∧ ∀ p, H1 p = none → Q (.ref p) (upd H1 p (.tup xs))
def tLst (t : TA) : TE := fun σ H Q => t σ H fun xs H1 => xs.length ≤ sizeLine ∧ ∀ p, H1 p = none → Q (.ref p) (upd H1 p (.lst xs))
theorem pe_tup {x1} (h : PA X es t) : PE X (.Tuple es x1 pos) (tTup t) := by
  intro pins s σ H Q I hq
  refine wpAny_Tuple_spliced (thn (h pos pins s σ H _ I hq) fun us s1 ⟨xs, H1, I1, r, z, q⟩ => ⟨by rw [← r.length]; exact z, ?_⟩)
  have hf : H1 s1.heap.objs.size = none := I1.hok.fresh (Nat.le_refl _)
  refine ⟨.ref s1.heap.objs.size, upd H1 s1.heap.objs.size (.tup xs), I1.laid (t' := s1.toks) (fun b u e => Heap.get?_push_of_some _ e) (Nat.le_refl _) ?_, rfl, q _ hf⟩
  exact ⟨z, us, r, ⟨_, Heap.get?_push_size _ rfl, rfl, _, rfl⟩⟩
theorem pe_lst (h : PA X es t) : PE X (.List es pos) (tLst t) := by
  intro pins s σ H Q I hq
  refine wpAny_List_spliced (thn (h pos pins s σ H _ I hq) fun us s1 ⟨xs, H1, I1, r, z, q⟩ => ⟨by rw [← r.length]; exact z, ?_⟩)
  have hf : H1 s1.heap.objs.size = none := I1.hok.fresh (Nat.le_refl _)
  refine ⟨.ref s1.heap.objs.size, upd H1 s1.heap.objs.size (.lst xs), I1.laid (t' := s1.toks) (fun b u e => Heap.get?_push_of_some _ e) (Nat.le_refl _) ?_, rfl, q _ hf⟩
  exact ⟨z, us, 0, r, Heap.get?_push_size _ rfl⟩
end

/-! ### what a def promises -/
/-- a def's promise: the bound arguments in the parameters' order, the heap, the wanted end, the wanted exception -/
abbrev Sp := List V → Hp → VK → XK → Prop
/-- how an exception lies behind a call (file 08 gives it): the callers' frames, abstract heap and state ahead of the call, the wish, the exception, the state -/
abbrev CXT := List Env → Hp → Shared → XK → Value → Shared → Prop

/-- the state at a call -/
structure Env0 (P : Program) (w : World) (K : PySem.W.Frag) (mg : Str → Option Value) (base : Heap) (A : Around) (outer : List Env) (s : Shared) (H : Hp) : Prop where
  frames : A.frames = some outer
  mod : Mod K mg base
  bs : ∀ b o, base.get? b = some o → s.heap.get? b = some o ∧ H b = none
  bsz : base.objs.size ≤ s.heap.objs.size
  funs : s.heap.FunFrames base outer
  frf : ∀ b ∈ frs outer, H b = none
  hok : HOk P w H s.heap
  bare : AllBare s.gens
/-- a call's end -/
def CE (outer : List Env) (P : Program) (w : World) (H : Hp) (s : Shared) (Q : VK) (u : Value) (s' : Shared) : Prop :=
  ∃ v H', s'.os = s.os ∧ AllBare s'.gens ∧ Un (frs outer) [] H H' s.heap s'.heap ∧ HOk P w H' s'.heap ∧ RelV v u ∧ Q v H'
def CR (CX : CXT) (outer : List Env) (P : Program) (w : World) (H : Hp) (s : Shared) (Q : VK) (E : XK) (r : Result) (s' : Shared) : Prop :=
  match r with
  | .ok (.ret u) => CE outer P w H s Q u s'
  | .ok _ => False
  | .error e => CX outer H s E e s'
structure FnOk (P : Program) (w : World) (K : PySem.W.Frag) (mg : Str → Option Value) (base : Heap) (CX : CXT) (k : Nat) (f : Addr) (fd : FuncData) (ps : List Str) (sp : Sp) : Prop where
  len : ∀ vs H Q E, sp vs H Q E → vs.length = ps.length
  run : ∀ (A : Around) (outer : List Env) (s : Shared) (H : Hp) (args : Args) (us : List Value) (vs : List V) (Q : VK) (E : XK), Room k A → Env0 P w K mg base A outer s H → BindsTo s fd args (ps.zip us) → Vals vs us → sp vs H Q E →
    codeAny (model P w) A (.call (.ref f) args) (CR CX outer P w H s Q E) s
theorem FnOk.mono {P : Program} {w : World} {K : PySem.W.Frag} {mg : Str → Option Value} {base : Heap} {CX : CXT} {j k : Nat} {f : Addr} {fd : FuncData} {ps : List Str} {sp : Sp} (F : FnOk P w K mg base CX j f fd ps sp) (h : j ≤ k) :
    FnOk P w K mg base CX k f fd ps sp := ⟨F.len, fun A outer s H args us vs Q E hr => F.run A outer s H args us vs Q E (hr.mono h)⟩
/-- a weaker promise -/
theorem FnOk.imp {P : Program} {w : World} {K : PySem.W.Frag} {mg : Str → Option Value} {base : Heap} {CX : CXT} {k : Nat} {f : Addr} {fd : FuncData} {ps : List Str} {sp sp' : Sp} (F : FnOk P w K mg base CX k f fd ps sp)
    (h : ∀ vs H Q E, sp' vs H Q E → sp vs H Q E) : FnOk P w K mg base CX k f fd ps sp' :=
  ⟨fun vs H Q E q => F.len vs H Q E (h _ _ _ _ q), fun A outer s H args us vs Q E hr he hb hv hs => F.run A outer s H args us vs Q E hr he hb hv (h _ _ _ _ hs)⟩

theorem Env0.in1 {P : Program} {w : World} {K : PySem.W.Frag} {mg : Str → Option Value} {base : Heap} {A : Around} {outer : List Env} {s : Shared} {H : Hp} (e : Env0 P w K mg base A outer s H) :
    Env0 P w K mg base A.in1 outer s H := ⟨e.frames, e.mod, e.bs, e.bsz, e.funs, e.frf, e.hok, e.bare⟩

section
variable {X : Cx} {pins : List (Addr × Obj)} {σ : St} {H : Hp} {s s' : Shared}
/-- from a body: what a callee wants -/
theorem Inv.env0 (I : Inv X pins σ H s) : Env0 X.prog X.w X.K X.mg X.base X.A X.stack s H :=
  ⟨I.ok.frames, I.ok.mod, I.bs, Nat.le_trans I.ok.bsz I.sz, I.stack, I.stkFree, I.hok, I.bare⟩
/-- behind a call -/
theorem Inv.after {Q : VK} {u : Value} (I : Inv X pins σ H s) (h : CE X.stack X.prog X.w H s Q u s') : EP X pins σ Q u s' := by
  obtain ⟨v, H', os, bare, un, hok, r, q⟩ := h
  obtain ⟨hh, g, d, t, os'⟩ := s'
  obtain rfl : os' = s.os := os
  exact ⟨v, H', I.call (h' := hh) (g' := g) (d' := d) (t' := t) (ch := []) un hok bare (fun b z => absurd z (by simp)), r, q⟩
end

/-! ### calls -/
/-- f(..): the written arguments, then the defaults dvs; E: what is wanted of an exception -/
def tCall (sp : Sp) (dvs : List V) (E : XK) (t : TA) : TE := fun σ H Q => t σ H fun vs H1 => sp (vs ++ dvs) H1 Q E
/-- how the parameters are bound: us the positional arguments, kw the keywords' values by name, ds the defaults that fill up -/
def Binds (K : PySem.W.Frag) (fd : FuncData) (ps : List Str) (ds : List Value) : Prop :=
  ∀ (s : Shared) (us : List Value), K.In s.heap → (us ++ ds).length = ps.length → BindsTo s fd ⟨us, []⟩ (ps.zip (us ++ ds))
/-- every parameter is given -/
theorem Binds.all {K : PySem.W.Frag} {fd : FuncData} {ps : List Str} (h : ∀ us : List Value, us.length = ps.length → bindArgs fd ⟨us, []⟩ = pure (ps.zip us)) : Binds K fd ps [] := fun s us _ hl => by
  rw [List.append_nil] at hl ⊢
  exact .of_eq (h us hl)

/-- an exception of a callee reaches what this body wants of exceptions -/
def Passes (CX : CXT) (X : Cx) (E : XK) : Prop := ∀ (pins : List (Addr × Obj)) (σ : St) (H : Hp) (s : Shared) (e : Value) (s' : Shared), Inv X pins σ H s → CX X.stack H s E e s' → X.xe e s'

section
variable {X : Cx} {CX : CXT} {k : Nat} {f C : Addr} {fd : FuncData} {ps : List Str} {sp : Sp} {dvs : List V} {ds : List Value} {E : XK} {x m : Str} {p pos apos : Pos} {e o : Expr} {es : List Expr} {ta : TE} {t : TA}

/-- the callee runs -/
theorem run_fn {pins : List (Addr × Obj)} {σ : St} {H : Hp} {s : Shared} {Q : VK} {us : List Value} {vs : List V} (F : FnOk X.prog X.w X.K X.mg X.base CX k f fd ps sp) (hr : Room k X.A) (hb : Binds X.K fd ps ds) (hd : Vals dvs ds) (hx : Passes CX X E)
    (I : Inv X pins σ H s) (r : Vals vs us) (h : sp (vs ++ dvs) H Q E) : wpAny (model X.prog X.w) X.A (call (.ref f) us) (EP X pins σ Q) X.xe s := by
  have r2 : Vals (vs ++ dvs) (us ++ ds) := r.append hd
  have hl : (us ++ ds).length = ps.length := by rw [← r2.length]; exact F.len _ _ _ _ h
  refine wpAny_call (codeAny_mono (F.run X.A X.stack s H ⟨us, []⟩ (us ++ ds) (vs ++ dvs) Q E hr I.env0 (hb s us I.kIn hl) r2 h) fun r s' hq => ?_)
  cases r with
  | error e => exact hx pins σ H s e s' I hq
  | ok fl =>
    cases fl with
    | ret u => exact I.after hq
    | next => exact False.elim hq
    | brk => exact False.elim hq
    | cont => exact False.elim hq

theorem pe_call (F : FnOk X.prog X.w X.K X.mg X.base CX k f fd ps sp) (hr : Room k X.A) (hg : Gl X x) (hm : X.mg x = some (.ref f)) (hk : PySem.W.keepIn X.K (.ref f) = true) (hb : Binds X.K fd ps ds) (hd : Vals dvs ds) (hx : Passes CX X E)
    (ha : PA X (e :: es) t) (hdb : (x == ("__debug__" : Str)) = false := by decide) (he : starEach (e :: es) X.env = (false, eval e X.env) :: starEach es X.env := by rfl) (hpl : (backTo pos (starEach es X.env)).any (·.1) = false := by rfl) :
    PE X (.Call (.Name x p) (e :: es) [] pos) (tCall sp dvs E t) := by
  intro pins s σ H Q I h
  refine wpAny_Call_Name_kw (ld_glob I hg hm ?_ hdb)
  refine PySem.W.callWith_K (h₀ := X.base) I.ok.mod.kin hk (thn (ha pos pins s σ H _ I h) fun us s1 ⟨vs, H1, I1, r, q⟩ => ⟨I1.kIn, ?_⟩) he hpl
  exact run_fn F hr hb hd hx I1 r q
/-- what a class must have to be made -/
structure Mk (K : PySem.W.Frag) (C f : Addr) : Prop where
  makes : PySem.W.makesIn K C = true
  init : PySem.W.findIn K (.ref C) "__init__" = some (some (.ref f))
  fn : PySem.W.isFn K (.ref f) = true
  kp : PySem.W.keepIn K (.ref C) = true

end

/-! ### keywords -/
section
variable {X : Cx} {CX : CXT} {k : Nat} {f C : Addr} {fd : FuncData} {ps ks : List Str} {sp : Sp} {E : XK} {x m : Str} {p pos apos kpos : Pos} {e o : Expr} {es : List Expr} {kws : List Keyword} {te ta : TE} {t tk : TA} {nm : Option Str}
/-- how a call with keywords binds: g puts the positional values us and the keywords' values ws (names ks) in the parameters' order, defaults among them -/
structure KBinds (K : PySem.W.Frag) (fd : FuncData) (ps ks : List Str) (g : List Value → List Value → List Value) (gV : List V → List V → List V) : Prop where
  to : ∀ (s : Shared) (us ws : List Value), K.In s.heap → (g us ws).length = ps.length → BindsTo s fd ⟨us, ks.zip ws⟩ (ps.zip (g us ws))
  rel : ∀ {vs : List V} {us : List Value} {zs : List V} {ws : List Value}, Vals vs us → Vals zs ws → Vals (gV vs zs) (g us ws)
variable {g : List Value → List Value → List Value} {gV : List V → List V → List V}
end

/-! ### a def's body keeps its promise -/
/-- names: the parameters first -/
structure FnScope (N P : List Str) (sc : Scope) : Prop where
  kind : sc.kind = .function
  co : sc.isCoroutine = false
  gen : sc.isGenerator = false
  nd : N.Nodup
  pre : N.take P.length = P
  par : ∀ x ∈ P, sc.names.lookup x = some .local ∨ sc.names.lookup x = some .cell
  nofree : ∀ y ∈ sc.names, y.2 ≠ .free

theorem bindL_out {kindOf : Str → Option NameKind} {x : Str} : ∀ {binds : List (Str × Value)} {m : Str → Option Value}, (∀ v, (x, v) ∉ binds) → bindL kindOf binds m x = m x
  | [], _, _ => rfl
  | (n, v) :: r, m, h => by
    unfold bindL
    rw [bindL_out fun w hw => h w (List.mem_cons_of_mem _ hw)]
    split
    · have : x ≠ n := by rintro rfl; exact h v List.mem_cons_self
      simp [this]
    · rfl
theorem bindC_out {kindOf : Str → Option NameKind} {x : Str} : ∀ {binds : List (Str × Value)} {m : Str → Option Value}, (∀ v, (x, v) ∉ binds) → bindC kindOf binds m x = m x
  | [], _, _ => rfl
  | (n, v) :: r, m, h => by
    unfold bindC
    rw [bindC_out fun w hw => h w (List.mem_cons_of_mem _ hw)]
    split
    · rfl
    · have : x ≠ n := by rintro rfl; exact h v List.mem_cons_self
      simp [this]
theorem bindL_get {kindOf : Str → Option NameKind} {x : Str} {v : Value} : ∀ {P : List Str} {vs : List Value} {i : Nat} {m : Str → Option Value}, P.Nodup → P[i]? = some x → vs[i]? = some v → kindOf x = some .local →
    bindL kindOf (P.zip vs) m x = some v
  | [], _, _, _, _, h, _, _ => by simp at h
  | _ :: _, [], _, _, _, _, h, _ => by simp at h
  | p :: P, w :: vs, 0, m, nd, h1, h2, hk => by
    simp at h1 h2; subst h1; subst h2
    show bindL kindOf ((p, w) :: P.zip vs) m p = _
    unfold bindL
    rw [bindL_out fun v hv => (List.nodup_cons.mp nd).1 (List.of_mem_zip hv).1, if_pos hk]
    simp
  | p :: P, w :: vs, i + 1, m, nd, h1, h2, hk => by
    show bindL kindOf ((p, w) :: P.zip vs) m x = _
    unfold bindL
    exact bindL_get (i := i) (List.nodup_cons.mp nd).2 (by simpa using h1) (by simpa using h2) hk
theorem bindC_get {kindOf : Str → Option NameKind} {x : Str} {v : Value} : ∀ {P : List Str} {vs : List Value} {i : Nat} {m : Str → Option Value}, P.Nodup → P[i]? = some x → vs[i]? = some v → kindOf x ≠ some .local →
    bindC kindOf (P.zip vs) m x = some v
  | [], _, _, _, _, h, _, _ => by simp at h
  | _ :: _, [], _, _, _, _, h, _ => by simp at h
  | p :: P, w :: vs, 0, m, nd, h1, h2, hk => by
    simp at h1 h2; subst h1; subst h2
    show bindC kindOf ((p, w) :: P.zip vs) m p = _
    unfold bindC
    rw [bindC_out fun v hv => (List.nodup_cons.mp nd).1 (List.of_mem_zip hv).1, if_neg hk]
    simp
  | p :: P, w :: vs, i + 1, m, nd, h1, h2, hk => by
    show bindC kindOf ((p, w) :: P.zip vs) m x = _
    unfold bindC
    exact bindC_get (i := i) (List.nodup_cons.mp nd).2 (by simpa using h1) (by simpa using h2) hk

/-- the names' values at the entry -/
def start (N : List Str) (vs : List V) : St := vs.map some ++ List.replicate (N.length - vs.length) none

/-- the context of a def's body, at its entry; an exception leaves the frame, then lies as CX says -/
def cxOf (CX : CXT) (P : Program) (w : World) (K : PySem.W.Frag) (mg : Str → Option Value) (base : Heap) (N : List Str) (qual : Str) (scope : Scope) (f : Addr) (cd : Value) (A : Around) (outer : List Env) (s : Shared) (H : Hp) (E : XK) : Cx where
  prog := P
  w := w
  K := K
  mg := mg
  base := base
  A := A.deeper (envOfC qual scope s.heap.objs.size f cd)
  N := N
  s₀ := s
  H₀ := H
  env := envOfC qual scope s.heap.objs.size f cd
  outer := outer
  stack := envOfC qual scope s.heap.objs.size f cd :: outer
  ex := []
  calm := true
  fn := fun _ => true
  pn := []
  xe := fun e s' => wpAny (model P w) (A.deeper (envOfC qual scope s.heap.objs.size f cd)) (leaving (envOfC qual scope s.heap.objs.size f cd) e) (fun _ s'' => CX outer H s E e s'') (fun e' s'' => CX outer H s E e' s'') s'

theorem cell_has {sc : Scope} {n : Nat} {x : Str} (h : sc.names.lookup x = some .cell) : ∃ c, (cellsFrom n sc.names []).lookup x = some c := by
  have q := PySem.W.cellsFrom_some sc.names n [] (.inl h)
  exact Option.isSome_iff_exists.mp q

theorem inv_start {CX : CXT} {P : Program} {w : World} {K : PySem.W.Frag} {mg : Str → Option Value} {base : Heap} {N ps : List Str} {qual : Str} {scope : Scope} {f : Addr} {cd : Value} {A : Around} {outer : List Env} {s s1 : Shared} {H : Hp} {E : XK} {us : List Value} {vs : List V}
    (S : FnScope N ps scope) (hd : A.handled = none) (e0 : Env0 P w K mg base A outer s H) (hl : vs.length = ps.length) (r : Vals vs us)
    (x : InCallC s s.heap.objs.size (bindL (envOfC qual scope s.heap.objs.size f cd).kindOf (ps.zip us) fun _ => none) (cellsFrom (s.heap.objs.size + 1) scope.names []) (bindC (envOfC qual scope s.heap.objs.size f cd).kindOf (ps.zip us) fun _ => none) s1) :
    Inv (cxOf CX P w K mg base N qual scope f cd A outer s H E) [] (start N vs) H s1 := by
  have hpl : ps.length ≤ N.length := by have := congrArg List.length S.pre; rw [List.length_take] at this; omega
  obtain ⟨h1, tk, rfl, hk⟩ := x.done
  have noA : ∀ b : Addr, b ∉ (cxOf CX P w K mg base N qual scope f cd A outer s H E).ex := fun b z => absurd (show b ∈ ([] : List Addr) from z) (by simp)
  refine ⟨⟨e0.mod, S.kind, rfl, rfl, Nat.le_refl _, fun y z c h1 h2 => ?_, fun y hy => ?_, fun y c _ h => ?_, fun _ => hd, Around.frames_deeper e0.frames, .inr ⟨rfl, rfl⟩, fun b z => absurd z (noA b), e0.bs, e0.bsz, fun b _ _ => noA b, fun b z => absurd z (noA b), e0.funs, e0.frf⟩,
    rfl, e0.bare, Un.kept hk, ⟨_, x.toInCall.ns, fun i y v h1 h2 h3 => ?_⟩, fun y c h => ⟨_, x.cell y c h⟩, e0.hok.fresh (Nat.le_refl _), fun y c h => ?_, fun p hp => absurd (show p ∈ ([] : List (Addr × Obj)) from hp) (by simp), e0.hok.kept hk, ?_⟩
  · exact name_of_addr x.apart (PySem.mem_of_lookup h1) (PySem.mem_of_lookup h2)
  · have hy : scope.names.lookup y = some .cell ∨ scope.names.lookup y = some .free := hy
    rcases hy with hy | hy
    · exact cell_has hy
    · exact absurd rfl (S.nofree _ (PySem.mem_of_lookup hy))
  · exact Nat.le_of_lt (x.above y c (PySem.mem_of_lookup h))
  · have hi : i < vs.length := by
      unfold start at h2
      by_cases hi : i < vs.length
      · exact hi
      · rw [List.getElem?_append_right (by simpa using hi)] at h2
        rw [List.getElem?_replicate] at h2
        split at h2 <;> cases h2
    have ha : vs[i]? = some v := by
      unfold start at h2
      rw [List.getElem?_append_left (by simpa using hi), List.getElem?_map] at h2
      cases e : vs[i]? with
      | none => rw [e] at h2; cases h2
      | some a => rw [e] at h2; cases h2; rfl
    obtain ⟨u, hu, rv⟩ := r.get ha
    have hp : ps[i]? = some y := by
      rw [← S.pre, List.getElem?_take_of_lt (by omega)]; exact h1
    have ndP : ps.Nodup := by rw [← S.pre]; exact S.nd.sublist (List.take_sublist _ _)
    refine ⟨u, rv, ?_⟩
    rcases S.par y (List.mem_of_getElem? hp) with k | k
    · exact .inl ⟨k, bindL_get ndP hp hu k⟩
    · obtain ⟨c, e⟩ := cell_has (n := s.heap.objs.size + 1) k
      refine .inr ⟨.inl k, c, e, ?_⟩
      have q := x.cell y c e
      rw [bindC_get ndP hp hu (by show scope.names.lookup y ≠ _; rw [k]; decide)] at q
      exact q
  · exact e0.hok.fresh (Nat.le_of_lt (x.above y c (PySem.mem_of_lookup h)))
  · unfold start
    show _ = N.length
    rw [List.length_append, List.length_map, List.length_replicate]
    omega

/-- THE RULE: a def (or a method) of the text, by its body. The body's reading t is chosen for each entry; it is run at the parameters' values -/
theorem fn_of {CX : CXT} {P : Program} {w : World} {K : PySem.W.Frag} {mg : Str → Option Value} {base : Heap} {k : Nat} {f : Addr} {name qual : Str} {params : Arguments} {body : List Stmt} {scope : Scope} {dV kV doc pm cdv ct oc : Value} {an od : Option Addr}
    {osl : Array (Option Value)} {N ps : List Str} {sp : Sp} (lk : K.lookup f = some ⟨oc, od, .func (PySem.W.fnOf name qual params body scope dV kV doc pm an cdv ct), osl⟩) (hcd : PySem.W.codeIn K cdv qual = true) (S : FnScope N ps scope)
    (len : ∀ vs H Q E, sp vs H Q E → vs.length = ps.length)
    (hbody : ∀ (A : Around) (outer : List Env) (s : Shared) (H : Hp) (vs : List V) (Q : VK) (E : XK), Room k (A.deeper (envOfC qual scope s.heap.objs.size f cdv)) → sp vs H Q E →
      ∃ t, PSs (cxOf CX P w K mg base N qual scope f cdv A outer s H E) body t ∧ t { nx := fun _ H' => Q .non H', rt := Q } (start N vs) H) :
    FnOk P w K mg base CX (k + 1) f (PySem.W.fnOf name qual params body scope dV kV doc pm an cdv ct) ps sp := by
  refine ⟨len, fun A outer s H args us vs Q E hr e0 hb r hsp => ?_⟩
  have hl := len _ _ _ _ hsp
  have KX : K.In s.heap := e0.mod.kin.keeps fun b o e => (e0.bs b o e).1
  have lim : s.heap.NoLimit := e0.mod.nolimit.keeps fun b o e => (e0.bs b o e).1
  have hkind : ∀ y ∈ ps.zip us, scope.names.lookup y.1 = some .local ∨ (scope.names.lookup y.1 = some .cell ∧ ((cellsFrom (s.heap.objs.size + 1) scope.names []).lookup y.1).isSome = true) := fun ⟨n, v⟩ hy => by
    rcases S.par n (List.of_mem_zip hy).1 with q | q
    · exact .inl q
    · exact .inr ⟨q, PySem.W.cellsFrom_some _ _ _ (.inl q)⟩
  refine codeAny_call_function hr.depth (KX _ _ lk) rfl S.co S.gen rfl (PySem.W.codeRec_of KX hcd) (hb _ _ _ _ ?_)
  refine wpAny_newFunctionEnv_cells S.kind hkind fun env he s1 x => ?_
  subst he
  refine ⟨lim.keeps x.toInCall.keep, codeAny_func ?_⟩
  obtain ⟨t, ht, hq⟩ := hbody A outer s H vs Q E (hr.deeper _) hsp
  have I : Inv (cxOf CX P w K mg base N qual scope f cdv A outer s H E) [] (start N vs) H s1 := inv_start S hr.hd e0 hl r x
  refine wpAny_mono (ht [] s1 (start N vs) H _ I hq) (fun fl s' hs => ?_) fun e s' hs => hs
  have fin : ∀ {σ' : St} {H' : Hp} {v : V} {u : Value}, Inv (cxOf CX P w K mg base N qual scope f cdv A outer s H E) [] σ' H' s' → RelV v u → Q v H' → CE outer P w H s Q u s' :=
    fun {σ' H' v u} J rv q => ⟨v, H', J.os, J.bare, J.base, J.hok, rv, q⟩
  cases fl with
  | ret u =>
    obtain ⟨v, σ', H', J, rv, q⟩ := hs
    exact fin J rv q
  | next =>
    obtain ⟨σ', H', J, q⟩ := hs
    exact fin (v := V.non) (u := Value.none) J rfl q
  | brk =>
    obtain ⟨_, _, _, q⟩ := hs
    exact False.elim q
  | cont =>
    obtain ⟨_, _, _, q⟩ := hs
    exact False.elim q
end L2

namespace L2
open PySem PySem.Spec PyProof.Rows
section
variable {X : Cx} {x : Str} {p pos : Pos} {e : Expr} {es : List Expr} {t : TA} {id T : String} {r : List V → Hp → VK → Prop}

def tCB (r : List V → Hp → VK → Prop) (t : TA) : TE := fun σ H Q => t σ H fun vs H1 => r vs H1 Q
/-- f(e, ..), f a built-in function -/
theorem pe_callB (hc : CallR X (.builtin id) r) (hg : Gl X x) (hm : X.mg x = none) (hv : bootBuiltins x = some (.builtin id)) (ha : PA X (e :: es) t) (hn : x ≠ "__name__" := by decide) (hdb : (x == ("__debug__" : Str)) = false := by decide)
    (he : starEach (e :: es) X.env = (false, eval e X.env) :: starEach es X.env := by rfl) (hpl : (backTo pos (starEach es X.env)).any (·.1) = false := by rfl) : PE X (.Call (.Name x p) (e :: es) [] pos) (tCB r t) := by
  intro pins s σ H Q I h
  refine wpAny_Call_Name_kw (ld_blt I hg hm hv ?_ hn hdb)
  exact PyProof.Rows.callWith_builtin1 (thn (ha pos pins s σ H _ I h) fun us s1 ⟨vs, H1, I1, r1, q1⟩ => hc pins s1 σ H1 vs us Q I1 r1 q1) he hpl
/-- T(e, ..), T a built-in type -/
theorem pe_callTy (hc : CallR X (.type T) r) (hg : Gl X x) (hm : X.mg x = none) (hv : bootBuiltins x = some (.type T)) (ha : PA X (e :: es) t) (hn : x ≠ "__name__" := by decide) (hdb : (x == ("__debug__" : Str)) = false := by decide)
    (he : starEach (e :: es) X.env = (false, eval e X.env) :: starEach es X.env := by rfl) (hpl : (backTo pos (starEach es X.env)).any (·.1) = false := by rfl) : PE X (.Call (.Name x p) (e :: es) [] pos) (tCB r t) := by
  intro pins s σ H Q I h
  refine wpAny_Call_Name_kw (ld_blt I hg hm hv ?_ hn hdb)
  exact PyProof.Rows.callWith_type1 (thn (ha pos pins s σ H _ I h) fun us s1 ⟨vs, H1, I1, r1, q1⟩ => hc pins s1 σ H1 vs us Q I1 r1 q1) he hpl
end
end L2

namespace HT
open PySem PyProof.Rows

section
open PySem.SeqAt
open PySem.AutoSeq1 (wpAny_loadPart')
open PySem.MeetsSeq PySem.MeetsSeq2 PySem.MeetsSeq3

end

section
variable {prog : Program} {w : World} {A : Around} {E : Value → Shared → Prop} {s : Shared}

/-! ### t[a:b], not the whole -/
/-- a slice's bound as a place among n (d where it is left out) -/
def sIx (n d : Nat) : Option Int → Nat
  | none => d
  | some v => if v < 0 then (v + (n : Int)).toNat else min v.toNat n
theorem sIx_none (n d : Nat) : sIx n d none = d := rfl
theorem sIx_nat (n d k : Nat) : sIx n d (some (k : Int)) = min k n := by
  show (if (k : Int) < 0 then ((k : Int) + (n : Int)).toNat else min (k : Int).toNat n) = min k n
  rw [if_neg (by omega), Int.toNat_natCast]
theorem sIx_le (n d : Nat) (hd : d ≤ n) (o : Option Int) : sIx n d o ≤ n := by
  cases o with
  | none => exact hd
  | some v =>
    show (if v < 0 then (v + (n : Int)).toNat else min v.toNat n) ≤ n
    by_cases hv : v < 0
    · rw [if_pos hv]; omega
    · rw [if_neg hv]; exact Nat.min_le_right _ _
end
end HT

namespace L2
open PySem PySem.Spec PyProof.Rows

/-! ### the parts of a slice -/
abbrev TO := St → Hp → (Option Int → Hp → Prop) → Prop
/-- a slice's part (left out, or an int) -/
def PO (X : Cx) (e : Option Expr) (t : TO) : Prop :=
  ∀ (pins : List (Addr × Obj)) (s : Shared) (σ : St) (H : Hp) (Q : Option Int → Hp → Prop), Inv X pins σ H s → t σ H Q →
    wpAny (model X.prog X.w) X.A (evalPart e X.env) (fun u s' => ∃ o H', Inv X pins σ H' s' ∧ IsPart u o ∧ Q o H') X.xe s
def tNoPart : TO := fun _ H Q => Q none H
def tPart (t : TE) : TO := fun σ H Q => t σ H fun x H1 => ∃ i, x = .int i ∧ Q (some i) H1

section
variable {X : Cx} {e : Expr} {te : TE} {lo hi : Option Expr} {tl th : TO} {pos p2 : Pos}

theorem po_none : PO X none tNoPart := by
  intro pins s σ H Q I h
  rw [evalPart_none]
  exact wpAny_pure ⟨none, H, I, .none, h⟩
theorem po_some (h : PE X e te) : PO X (some e) (tPart te) := by
  intro pins s σ H Q I hw
  rw [evalPart_some]
  refine thn (h pins s σ H _ I hw) fun u s1 ⟨x, H1, I1, r1, q1⟩ => ?_
  obtain ⟨i, rfl, q⟩ := q1
  obtain ⟨t, rfl⟩ := r1
  exact ⟨some i, H1, I1, .int i t, q⟩

/-- what a slice of a value is, by values: the slice object stands at sl -/
def SlR (X : Cx) (r : V → Option Int → Option Int → Hp → VK → Prop) : Prop :=
  ∀ (pins : List (Addr × Obj)) (s : Shared) (σ : St) (H : Hp) (x : V) (v vl vu : Value) (lo hi : Option Int) (sl : Addr) (Q : VK), Inv X pins σ H s → RelV x v → s.heap.IsSliceOf sl vl vu .none → IsPart vl lo → IsPart vu hi → r x lo hi H Q →
    ∃ T id, typeLookup (.type T) "__getitem__" = pure (some (.builtin id)) ∧ s.TypeIs v T ∧ wpAny (model X.prog X.w) X.A (getItem v (.ref sl)) (EP X pins σ Q) X.xe s
theorem SlR.or {r r' : V → Option Int → Option Int → Hp → VK → Prop} (h : SlR X r) (h' : SlR X r') : SlR X (fun x lo hi H Q => r x lo hi H Q ∨ r' x lo hi H Q) := by
  intro pins s σ H x v vl vu lo hi sl Q I rx hs pl pu q
  rcases q with q | q
  · exact h pins s σ H x v vl vu lo hi sl Q I rx hs pl pu q
  · exact h' pins s σ H x v vl vu lo hi sl Q I rx hs pl pu q
def tSl (r : V → Option Int → Option Int → Hp → VK → Prop) (te : TE) (tl th : TO) : TE := fun σ H Q => te σ H fun x H1 => tl σ H1 fun l H2 => th σ H2 fun u H3 => r x l u H3 Q
/-- a[lo:hi], any a -/
theorem pe_slice {r : V → Option Int → Option Int → Hp → VK → Prop} (hr : SlR X r) (he : PE X e te) (hl : PO X lo tl) (hu : PO X hi th) : PE X (.Subscript e (.Slice lo hi none p2) pos) (tSl r te tl th) := by
  intro pins s σ H Q I h
  refine Subscript_ (thn (he pins s σ H _ I h) fun v s1 ⟨x, H1, I1, r1, q1⟩ => ?_)
  refine wpAny_Slice (thn (hl pins s1 σ H1 _ I1 q1) fun vl s2 ⟨l, H2, I2, pl, q2⟩ => thn (hu pins s2 σ H2 _ I2 q2) fun vu s3 ⟨u, H3, I3, pu, q3⟩ => ?_)
  rw [evalPart_none]
  refine wpAny_pure ?_
  have I4 : Inv X pins σ H3 { s3 with heap := s3.heap.push { cls := .type "slice", data := .fields #[vl, vu, .none] } } := I3.kept (t' := s3.toks) fun b ob q => Heap.get?_push_of_some _ q
  obtain ⟨T, id, hT, ht, hg⟩ := hr pins { s3 with heap := s3.heap.push { cls := .type "slice", data := .fields #[vl, vu, .none] } } σ H3 x v vl vu l u s3.heap.objs.size Q I4 r1 (Heap.IsSliceOf.new ..) pl pu q3
  show wpAny (model X.prog X.w) X.A (subscriptTail e (.Slice lo hi none p2) v (.ref s3.heap.objs.size)) (EP X pins σ Q) X.xe { s3 with heap := s3.heap.push { cls := .type "slice", data := .fields #[vl, vu, .none] } }
  exact tail_any (ops := [.ref s3.heap.objs.size, v]) ht hT hg (by with_unfolding_all rfl)

/-! ### t < u, t + u -/
end
end L2

namespace L2
open PySem PySem.Spec PyProof.Rows

/-! ### places -/
/-- the place that an index of any sign means -/
def ixN (n : Nat) (i : Int) : Option Nat := if 0 ≤ i then (if i < n then some i.toNat else none) else if -(n : Int) ≤ i then some (i + n).toNat else none
def atI {α : Type} (xs : List α) (i : Int) : Option α := (ixN xs.length i).bind fun j => xs[j]?
theorem ixN_seq {n : Nat} {i : Int} {j : Nat} (h : ixN n i = some j) : seqIndex? i n = some j ∧ j < n ∧ -(n : Int) ≤ i ∧ i < n := by
  unfold ixN at h
  by_cases h0 : 0 ≤ i
  · rw [if_pos h0] at h
    by_cases h1 : i < n
    · rw [if_pos h1] at h
      have e : i.toNat = j := Option.some.inj h
      exact ⟨by rw [seqIndex_of h0 h1, e], by omega, by omega, h1⟩
    · rw [if_neg h1] at h; cases h
  · rw [if_neg h0] at h
    by_cases h1 : -(n : Int) ≤ i
    · rw [if_pos h1] at h
      have e : (i + n).toNat = j := Option.some.inj h
      exact ⟨by rw [seqIndex_neg (by omega) h1, e], by omega, h1, by omega⟩
    · rw [if_neg h1] at h; cases h
theorem atI_get {α : Type} {xs : List α} {i : Int} {v : α} (h : atI xs i = some v) : ∃ j, seqIndex? i xs.length = some j ∧ xs[j]? = some v ∧ j < xs.length ∧ -(xs.length : Int) ≤ i ∧ i < xs.length := by
  unfold atI at h
  cases e : ixN xs.length i with
  | none => rw [e] at h; cases h
  | some j =>
    rw [e] at h
    obtain ⟨h1, h2, h3, h4⟩ := ixN_seq e
    exact ⟨j, h1, h, h2, h3, h4⟩
theorem atI_nat {α : Type} {xs : List α} {j : Nat} {v : α} (h : xs[j]? = some v) : atI xs (j : Int) = some v := by
  have hj : j < xs.length := (List.getElem?_eq_some_iff.mp h).1
  have e : ixN xs.length (j : Int) = some j := by
    unfold ixN
    rw [if_pos (by omega), if_pos (by omega)]; simp
  unfold atI; rw [e]; exact h
/-! ### what may be subscripted -/
/-- what stands as an index of a plain subscript -/
def PlainIx (b : Expr) : Prop := ∀ o i, subscripted b false o i = operate [o, i] (getItem o i)
/-- a subscript by values -/
def IxR (X : Cx) (r : R2) : Prop :=
  ∀ (value slice : Expr) (pins : List (Addr × Obj)) (s : Shared) (σ : St) (H : Hp) (x y : V) (v u : Value) (Q : VK), Inv X pins σ H s → RelV x v → RelV y u → r x y H Q →
    subscripted slice false v u = operate [v, u] (getItem v u) → wpAny (model X.prog X.w) X.A (subscriptTail value slice v u) (EP X pins σ Q) X.xe s
/-- a call of a builtin's method by values: the receiver, the arguments -/
def MtR (X : Cx) (id : String) (r : V → List V → Hp → VK → Prop) : Prop :=
  ∀ (pins : List (Addr × Obj)) (s : Shared) (σ : St) (H : Hp) (x : V) (xs : List V) (v : Value) (us : List Value) (Q : VK), Inv X pins σ H s → RelV x v → Vals xs us → r x xs H Q →
    wpAny (model X.prog X.w) X.A (call (.builtin id) (v :: us)) (EP X pins σ Q) X.xe s
section
variable {X : Cx} {a b : Expr} {ta tb : TE} {pos : Pos}
theorem IxR.or {r r' : R2} (h : IxR X r) (h' : IxR X r') : IxR X (fun x y H Q => r x y H Q ∨ r' x y H Q) := by
  intro value slice pins s σ H x y v u Q I rx ry q hs
  rcases q with q | q
  · exact h value slice pins s σ H x y v u Q I rx ry q hs
  · exact h' value slice pins s σ H x y v u Q I rx ry q hs
theorem MtR.or {id : String} {r r' : V → List V → Hp → VK → Prop} (h : MtR X id r) (h' : MtR X id r') : MtR X id (fun x xs H Q => r x xs H Q ∨ r' x xs H Q) := by
  intro pins s σ H x xs v us Q I rx rs q
  rcases q with q | q
  · exact h pins s σ H x xs v us Q I rx rs q
  · exact h' pins s σ H x xs v us Q I rx rs q
/-- a[b] -/
theorem pe_ix {r : R2} (hr : IxR X r) (ha : PE X a ta) (hb : PE X b tb) (hs : PlainIx b) : PE X (.Subscript a b pos) (tOp r ta tb) := by
  intro pins s σ H Q I h
  exact Subscript_ (binT ha hb I h fun v u s2 x y H2 I2 rx ry q => hr a b pins s2 σ H2 x y v u Q I2 rx ry q (hs _ _))

def rIxL (K : PySem.W.Frag) : R2 := fun x y H Q => ∃ p xs i v, x = .ref p ∧ y = .int i ∧ SqL K H p xs ∧ atI xs i = some v ∧ Q v H
def rIxT (K : PySem.W.Frag) : R2 := fun x y H Q => ∃ p xs i v, x = .ref p ∧ y = .int i ∧ SqT K H p xs ∧ atI xs i = some v ∧ Q v H
def rIxS : R2 := fun x y H Q => ∃ z i c, x = .str z ∧ y = .int i ∧ z.length ≤ sizeLine ∧ atI z.cps.toList i = some c ∧ Q (.str ⟨#[c]⟩) H
theorem ix_list : IxR X (rIxL X.K) := by
  intro value slice pins s σ H x y v u Q I rx ry h hs
  obtain ⟨p, xs, i, z, rfl, rfl, hq, he, q⟩ := h
  cases rx
  obtain ⟨t, rfl⟩ := ry
  obtain ⟨its, r, pl, hz⟩ := I.list hq
  obtain ⟨j, h1, h2, h3, h4, h5⟩ := atI_get he
  obtain ⟨w, ew, rw'⟩ := r.get h2
  have hl := r.length
  have hn := line63
  have fin : EP X pins σ Q w s := ⟨z, H, I, rw', q⟩
  by_cases h0 : 0 ≤ i
  · have hj : i.toNat = j := by
      rw [seqIndex_of h0 h5] at h1
      exact Option.some.inj h1
    exact item_listR pl.isList h0 (by omega) (by rw [hj]; simpa using ew) fin hs
  · have hj : (i + (its.toArray.size : Int)).toNat = j := by
      rw [seqIndex_neg (by omega) h4] at h1
      rw [List.size_toArray, ← hl]
      exact Option.some.inj h1
    exact subscriptTail_builtinR (x := w) pl.isList.typeIs slot_list_getitem.lookup
      (wpAny_getItem_list_neg (Q := fun r s' => r = w ∧ EP X pins σ Q r s') pl.isList (by omega) (by rw [List.size_toArray] <;> omega) (by omega) (by rw [hj]; simpa using ew) ⟨rfl, fin⟩) hs
theorem ix_tup : IxR X (rIxT X.K) := by
  intro value slice pins s σ H x y v u Q I rx ry h hs
  obtain ⟨p, xs, i, z, rfl, rfl, hq, he, q⟩ := h
  cases rx
  obtain ⟨t, rfl⟩ := ry
  obtain ⟨its, r, pl, hz⟩ := I.tuple hq
  obtain ⟨j, h1, h2, h3, h4, h5⟩ := atI_get he
  obtain ⟨w, ew, rw'⟩ := r.get h2
  have hl := r.length
  have hn := line63
  have fin : EP X pins σ Q w s := ⟨z, H, I, rw', q⟩
  exact subscriptTail_builtinR (x := w) pl.typeIs slot_tuple_getitem.lookup
    (getItem_tuple (j := j) (Q := fun r s' => r = w ∧ EP X pins σ Q r s') pl (by omega) (by omega) (by rw [List.size_toArray, ← hl]; exact h1) (by simpa using ew) ⟨rfl, fin⟩) hs
theorem ix_str : IxR X rIxS := by
  intro value slice pins s σ H x y v u Q I rx ry h hs
  obtain ⟨z, i, c, rfl, rfl, hz, he, q⟩ := h
  obtain ⟨t, rfl⟩ := rx
  obtain ⟨t', rfl⟩ := ry
  obtain ⟨j, h1, h2, h3, h4, h5⟩ := atI_get he
  have hl : z.cps.toList.length = z.length := by simp [Str.length]
  rw [hl] at h1 h4 h5
  have hn := line63
  exact tail_any (typeIs_str s z t) slot_str_getitem.lookup (getItem_str (c := c) (by
    have e1 : decide (i < -(2 ^ 63 : Int)) = false := decide_eq_false (by omega)
    have e2 : decide (i ≥ 2 ^ 63) = false := decide_eq_false (by omega)
    rw [e1, e2, Bool.or_false]) (by rw [h1]; simpa using h2) ⟨.str ⟨#[c]⟩, H, I.tok _, ⟨_, rfl⟩, q⟩) hs
/-! ### xs[i] = v, any sign -/
theorem Inv.lst {pins : List (Addr × Obj)} {σ : St} {H : Hp} {s : Shared} {p : Addr} {xs : List V} (I : Inv X pins σ H s) (h : H p = some (.lst xs)) :
    ∃ (its : List Value) (n : Nat), Vals xs its ∧ s.heap.get? p = some { cls := .type "list", data := .seq its.toArray n } ∧ xs.length ≤ sizeLine := by
  obtain ⟨z, its, n, r, e⟩ := I.hok p _ h
  exact ⟨its, n, r, e, z⟩
/-! ### slices -/
/-! ### in, not in: flat items -/
def flatV : V → Bool
  | .non => true
  | .bl _ => true
  | .int _ => true
  | .str _ => true
  | _ => false
/-- == of flat values -/
def eqV : V → V → Bool
  | .non, .non => true
  | .bl a, .bl b => a == b
  | .bl a, .int b => (if a then 1 else 0) == b
  | .int a, .bl b => a == (if b then 1 else 0)
  | .int a, .int b => a == b
  | .str a, .str b => a == b
  | _, _ => false
theorem eqAt_V {A : Around} {s : Shared} {y x : V} {u v : Value} (ry : RelV y u) (rx : RelV x v) (fy : flatV y = true) (fx : flatV x = true) : SeqAt.EqAt A s u v (eqV y x) := by
  cases y with
  | non =>
    cases ry
    cases x with
    | non => cases rx; exact SeqAt.EqAt.same _
    | bl b => cases rx; exact SeqAt.EqAt.none_bool b
    | int b => obtain ⟨t, rfl⟩ := rx; exact SeqAt.EqAt.none_int b t
    | str b => obtain ⟨t, rfl⟩ := rx; exact SeqAt.EqAt.none_str b t
    | _ => exact absurd (show false = true from fx) Bool.false_ne_true
  | bl a =>
    cases ry
    cases x with
    | non => cases rx; exact SeqAt.EqAt.bool_none a
    | bl b => cases rx; exact SeqAt.EqAt.bool_bool a b
    | int b => obtain ⟨t, rfl⟩ := rx; exact SeqAt.EqAt.bool_int a b t
    | str b => obtain ⟨t, rfl⟩ := rx; exact SeqAt.EqAt.bool_str a b t
    | _ => exact absurd (show false = true from fx) Bool.false_ne_true
  | int a =>
    obtain ⟨t', rfl⟩ := ry
    cases x with
    | non => cases rx; exact SeqAt.EqAt.int_none a t'
    | bl b => cases rx; exact SeqAt.EqAt.int_bool a t' b
    | int b => obtain ⟨t, rfl⟩ := rx; exact SeqAt.EqAt.int_int a t' b t
    | str b => obtain ⟨t, rfl⟩ := rx; exact SeqAt.EqAt.int_str a t' b t
    | _ => exact absurd (show false = true from fx) Bool.false_ne_true
  | str a =>
    obtain ⟨t', rfl⟩ := ry
    cases x with
    | non => cases rx; exact SeqAt.EqAt.str_none a t'
    | bl b => cases rx; exact SeqAt.EqAt.str_bool a t' b
    | int b => obtain ⟨t, rfl⟩ := rx; exact SeqAt.EqAt.str_int a t' b t
    | str b => obtain ⟨t, rfl⟩ := rx; exact SeqAt.EqAt.str_str a t' b t
    | _ => exact absurd (show false = true from fx) Bool.false_ne_true
  | _ => exact absurd (show false = true from fy) Bool.false_ne_true
/-- the items' answers, read off the values (a value's own answer does not lean on its token) -/
def eqU (x : V) (u : Value) : Bool := match u with
  | .none => eqV .non x
  | .bool b => eqV (.bl b) x
  | .int i _ => eqV (.int i) x
  | .str z _ => eqV (.str z) x
  | _ => false
theorem eqU_of {x y : V} {u : Value} (r : RelV y u) (f : flatV y = true) : eqU x u = eqV y x := by
  cases y with
  | non => cases r; rfl
  | bl b => cases r; rfl
  | int i => obtain ⟨t, rfl⟩ := r; rfl
  | str z => obtain ⟨t, rfl⟩ := r; rfl
  | _ => exact absurd (show false = true from f) Bool.false_ne_true
theorem any_eqU {x : V} : ∀ {xs : List V} {us : List Value}, Vals xs us → xs.all flatV = true → us.any (eqU x) = xs.any fun y => eqV y x
  | _, _, .nil, _ => rfl
  | y :: xs, u :: us, .cons r t, f => by
    rw [List.all_cons, Bool.and_eq_true] at f
    rw [List.any_cons, List.any_cons, eqU_of r f.1, any_eqU t f.2]
theorem mem_eqAt {A : Around} {s : Shared} {x : V} {v : Value} (rx : RelV x v) (fx : flatV x = true) : ∀ {xs : List V} {us : List Value}, Vals xs us → xs.all flatV = true → ∀ u ∈ us, SeqAt.EqAt A s u v (eqU x u)
  | _, _, .nil, _ => fun u hu => by cases hu
  | y :: xs, u :: us, .cons r t, f => fun u' hu => by
    rw [List.all_cons, Bool.and_eq_true] at f
    rcases List.mem_cons.mp hu with rfl | hu
    · rw [eqU_of r f.1]; exact eqAt_V r rx f.1 fx
    · exact mem_eqAt rx fx t f.2 u' hu
def inV (x : V) (xs : List V) : Bool := xs.any fun y => eqV y x
/-- x in a list or tuple of flat items -/
def rIn (K : PySem.W.Frag) (neg : Bool) : R2 := fun x y H Q => ∃ p xs, y = .ref p ∧ (SqL K H p xs ∨ SqT K H p xs) ∧ flatV x = true ∧ xs.all flatV = true ∧ Q (.bl (if neg then !inV x xs else inV x xs)) H
theorem op_in_seq : OpR X (compareOp .In) (rIn X.K false) := by
  intro pins s σ H x y v u Q I rx ry h
  obtain ⟨p, xs, rfl, hq, fx, fs, q⟩ := h
  cases ry
  rcases hq with hq | hq
  · obtain ⟨its, r, pl, hz⟩ := I.list hq
    refine SeqAt.in_listAt (eqU x) pl.isList (fun w hw => mem_eqAt rx fx r fs w (by simpa using hw)) ⟨.bl _, H, I, rfl, ?_⟩
    rw [show its.toArray.any (eqU x) = its.any (eqU x) by simp, any_eqU r fs]
    exact q
  · obtain ⟨its, r, pl, hz⟩ := I.tuple hq
    refine SeqAt.in_tupleAt (eqU x) pl (fun w hw => mem_eqAt rx fx r fs w (by simpa using hw)) ⟨.bl _, H, I, rfl, ?_⟩
    rw [show its.toArray.any (eqU x) = its.any (eqU x) by simp, any_eqU r fs]
    exact q
theorem op_notIn_seq : OpR X (compareOp .NotIn) (rIn X.K true) := by
  intro pins s σ H x y v u Q I rx ry h
  obtain ⟨p, xs, rfl, hq, fx, fs, q⟩ := h
  cases ry
  rcases hq with hq | hq
  · obtain ⟨its, r, pl, hz⟩ := I.list hq
    refine SeqAt.notIn_listAt (eqU x) pl.isList (fun w hw => mem_eqAt rx fx r fs w (by simpa using hw)) ⟨.bl _, H, I, rfl, ?_⟩
    rw [show its.toArray.any (eqU x) = its.any (eqU x) by simp, any_eqU r fs]
    exact q
  · obtain ⟨its, r, pl, hz⟩ := I.tuple hq
    refine SeqAt.notIn_tupleAt (eqU x) pl (fun w hw => mem_eqAt rx fx r fs w (by simpa using hw)) ⟨.bl _, H, I, rfl, ?_⟩
    rw [show its.toArray.any (eqU x) = its.any (eqU x) by simp, any_eqU r fs]
    exact q
/-! ### len, list(x), tuple(x) of any list or tuple that is read -/
theorem call_len_seq : CallR X (.builtin "len") (fun xs H Q => ∃ p ys, xs = [.ref p] ∧ (SqL X.K H p ys ∨ SqT X.K H p ys) ∧ Q (.int ys.length) H) := by
  intro pins s σ H xs us Q I r h
  obtain ⟨p, ys, rfl, hq, q⟩ := h
  obtain ⟨u, rfl, rx⟩ := vals1 r
  cases rx
  have hn := line63
  rcases hq with hq | hq
  · obtain ⟨its, r', pl, hz⟩ := I.list hq
    have hlen := r'.length
    exact Calls.call_len_list pl.isList (by simp only [List.size_toArray] <;> omega) ⟨.int ys.length, H, I.tok _, ⟨s.toks + 1, by rw [List.size_toArray, hlen]⟩, q⟩
  · obtain ⟨its, r', pl, hz⟩ := I.tuple hq
    have hlen := r'.length
    exact len_tuple pl (by simp only [List.size_toArray] <;> omega) ⟨.int ys.length, H, I.tok _, ⟨s.toks + 1, by rw [List.size_toArray, hlen]⟩, q⟩
theorem call_len_str : CallR X (.builtin "len") (fun xs H Q => ∃ z, xs = [.str z] ∧ z.length ≤ sizeLine ∧ Q (.int z.length) H) := by
  intro pins s σ H xs us Q I r h
  obtain ⟨z, rfl, hz, q⟩ := h
  obtain ⟨u, rfl, t, rfl⟩ := vals1 r
  have hn := line63
  exact len_str (by omega) ⟨.int z.length, H, I.tok _, ⟨_, rfl⟩, q⟩
theorem CallR.or {f : Value} {r r' : List V → Hp → VK → Prop} (h : CallR X f r) (h' : CallR X f r') : CallR X f (fun xs H Q => r xs H Q ∨ r' xs H Q) := by
  intro pins s σ H xs us Q I rs q
  rcases q with q | q
  · exact h pins s σ H xs us Q I rs q
  · exact h' pins s σ H xs us Q I rs q
/-! ### the call of a builtin's method: o.m(..) -/
/-- the value is of that builtin type -/
def tyV (K : PySem.W.Frag) (T : String) (x : V) (H : Hp) : Prop := match x with
  | .str _ => T = "str"
  | .int _ => T = "int"
  | .ref p => (T = "list" ∧ ∃ xs, SqL K H p xs) ∨ (T = "tuple" ∧ ∃ o, K.lookup p = some o ∧ o.cls = .type "tuple" ∧ o.dict = none) ∨
      (T = "dict" ∧ ((∃ kvs, H p = some (.dK kvs)) ∨ ∃ kvs, H p = some (.dT kvs))) ∨ (T = "set" ∧ ∃ S n, H p = some (.set S n))
  | _ => False
theorem tyV_is {pins : List (Addr × Obj)} {σ : St} {H : Hp} {s : Shared} {T : String} {x : V} {v : Value} (I : Inv X pins σ H s) (r : RelV x v) (ty : tyV X.K T x H) :
    s.TypeIs v T ∧ ∀ a, v = .ref a → ∃ ob, s.heap.get? a = some ob ∧ ob.dict = none := by
  cases x with
  | str z =>
    obtain ⟨t, rfl⟩ := r
    cases (show T = "str" from ty)
    exact ⟨typeIs_str s z t, fun _ e => nomatch e⟩
  | int i =>
    obtain ⟨t, rfl⟩ := r
    cases (show T = "int" from ty)
    exact ⟨typeIs_int s i t, fun _ e => nomatch e⟩
  | ref p =>
    cases r
    rcases ty with ⟨rfl, xs, hq⟩ | ⟨rfl, o, hk, hc, hd⟩ | ⟨rfl, hk⟩ | ⟨rfl, S, n, hk⟩
    · obtain ⟨its, _, pl, _⟩ := I.list hq
      refine ⟨pl.isList.typeIs, fun a e => ?_⟩
      cases e
      obtain ⟨o, n, e, c, hd, _⟩ := pl
      exact ⟨o, e, hd⟩
    · refine ⟨⟨o, I.kIn p o hk, hc⟩, fun a e => ?_⟩
      cases e
      exact ⟨o, I.kIn _ o hk, hd⟩
    · have z : ∃ o, s.heap.get? p = some o ∧ o.ExactDict := by
        rcases hk with ⟨kvs, hk⟩ | ⟨kvs, hk⟩
        · obtain ⟨_, _, _, _, o, _, _, e, ex, _⟩ := I.hok p _ hk
          exact ⟨o, e, ex⟩
        · obtain ⟨_, _, _, _, o, _, _, e, ex, _⟩ := I.hok p _ hk
          exact ⟨o, e, ex⟩
      obtain ⟨o, e, ex⟩ := z
      refine ⟨⟨o, e, ex.1⟩, fun a e2 => ?_⟩
      cases e2
      exact ⟨o, e, ex.2.1⟩
    · obtain ⟨o, _, _, _, e, ex, _⟩ := I.hok p _ hk
      refine ⟨⟨o, e, ex.1⟩, fun a e2 => ?_⟩
      cases e2
      exact ⟨o, e, ex.2.1⟩
  | _ => exact False.elim ty
def tBM0 (K : PySem.W.Frag) (T : String) (r : V → List V → Hp → VK → Prop) (to : TE) : TE := fun σ H Q => to σ H fun x H1 => tyV K T x H1 ∧ r x [] H1 Q
def tBM (K : PySem.W.Frag) (T : String) (r : V → List V → Hp → VK → Prop) (to : TE) (t : TA) : TE := fun σ H Q => to σ H fun x H1 => tyV K T x H1 ∧ t σ H1 fun xs H2 => r x xs H2 Q
variable {o e : Expr} {es : List Expr} {to : TE} {t : TA} {name : Str} {apos cpos : Pos} {T id : String} {r : V → List V → Hp → VK → Prop}
theorem pe_bm (pa : PlainAttrs T) (slot : Slot T name id) (hty : typeOf (.builtin id) = pure (.type "method_descriptor")) (hm : MtR X id r) (ho : PE X o to) (ha : PA X (e :: es) t)
    (hbase : attributeBase o name X.env (eval o X.env) = eval o X.env := by rfl)
    (hfew : ((backTo cpos (starEach (e :: es) X.env)).all (fun x => !x.1) && (backToKw cpos (keywordEach [] X.env)).all (fun x => x.1.isSome)
      && decide ((e :: es).length + ([] : List Keyword).length + (if ([] : List Keyword).isEmpty then 0 else 1) < 30)) = true := by rfl)
    (hline : (apos.endLine == cpos.line) = true := by rfl) (hs : starEach (e :: es) X.env = (false, eval e X.env) :: starEach es X.env := by rfl) (hplain : (backTo cpos (starEach es X.env)).any (·.1) = false := by rfl) :
    PE X (.Call (.Attribute o name apos) (e :: es) [] cpos) (tBM X.K T r to t) := by
  intro pins s σ H Q I h
  refine wpAny_Call_method_late hbase hfew hline rfl (thn (ho pins s σ H _ I h) fun v s1 ⟨x, H1, I1, r1, ty, q1⟩ => ?_)
  obtain ⟨h1, h2⟩ := tyV_is I1 r1 ty
  refine ⟨T, id, pa, slot, hty, h1, h2, ?_⟩
  have hA := ha cpos pins s1 σ H1 _ I1 q1
  rw [hs] at hA ⊢
  refine Calls.callWith_builtin (by show (false || (backTo cpos (starEach es X.env)).any (·.1)) = false; rw [hplain] <;> rfl) (Calls.evalArgs_plain ?_)
  exact thn hA fun us s2 ⟨vs, H2, I2, r2, q2⟩ => hm pins s2 σ H2 x vs v us Q I2 r1 r2 q2
/- xs.append(e), list.index on a module's tuple .. are MtR facts of 06m -/
end
end L2

namespace L2
open PySem PySem.Spec PyProof.Rows

/-! ### lists of values -/
theorem Vals.one : ∀ {x : V} {us : List Value}, Vals [x] us → ∃ u, us = [u] ∧ RelV x u
  | _, _, .cons r .nil => ⟨_, rfl, r⟩
theorem Vals.two : ∀ {x y : V} {us : List Value}, Vals [x, y] us → ∃ u v, us = [u, v] ∧ RelV x u ∧ RelV y v
  | _, _, _, .cons r (.cons q .nil) => ⟨_, _, rfl, r, q⟩
theorem Vals.zero : ∀ {us : List Value}, Vals [] us → us = []
  | _, .nil => rfl
theorem Vals.reverse {xs : List V} {us : List Value} (h : Vals xs us) : Vals xs.reverse us.reverse := by
  induction h with
  | nil => exact .nil
  | cons r t ih => rw [List.reverse_cons, List.reverse_cons]; exact Vals.append ih (.cons r .nil)
section
variable {X : Cx} {pins : List (Addr × Obj)} {σ : St} {H : Hp} {s : Shared} {l b : Addr} {xs ys zs : List V}

/-! ### the two steps: a tracked list is rewritten, a new list is laid -/
theorem Inv.fresh (I : Inv X pins σ H s) : H s.heap.objs.size = none := I.hok.fresh (Nat.le_refl _)
end

section
variable {X : Cx}

/-! ### methods -/
/-! ### list + list, list += list, list * int -/
/-! ### del xs[i] -/
end

/-! ### xs[a:b] = ys -/
section
variable {prog : Program} {w : World} {A : Around} {E : Value → Shared → Prop} {s : Shared}
end

section
variable {X : Cx}
end
end L2

namespace Att
open PySem PySem.W PySem.Calls PyProof.Rows

/-! ### the script -/
theorem ints_of_wellAll {P : Params} {h : Heap} : ∀ (ns : List Int) (vs : List Value), WellAll P h vs (ns.map WData.int) → IntsAre vs ns := by
  intro ns
  induction ns with
  | nil =>
    intro vs w
    rw [List.map_nil] at w
    cases w
    exact .nil
  | cons n ns ih =>
    intro vs w
    rw [List.map_cons] at w
    cases w with
    | cons a b =>
      cases a
      exact .cons _ _ (ih _ b)

theorem script_of {l : OpenLaw} {n : Nat} (hn : l.most = some n) {P : Params} {h : Heap} {args : List WData} {vals : List Value}
    (hpre : l.row.toRowW.claim.pre args = true) (hwl : WellAll P h vals args) :
    ∃ a vs ns, vals = [Value.ref a] ∧ args = [WData.list (ns.map WData.int)] ∧ h.get? a = some { cls := .type "list", data := .seq vs.toArray } ∧ IntsAre vs ns ∧ ns.length ≤ n := by
  have hsh : WShape.hasAll [] args [.list .int] = true := (pre_splitW hpre).1
  have hc : l.pre.holds [] { args := args } = true := (pre_splitW hpre).2
  obtain ⟨d, r, rfl, h1, h2⟩ := hasAllW_cons hsh
  obtain rfl := hasAllW_nil h2
  obtain ⟨xs, rfl, h3⟩ := hasW_list h1
  obtain ⟨ns, rfl⟩ := items_int h3
  have hlen : ns.length ≤ n := by
    unfold OpenLaw.pre at hc
    have h4 : (WTm.not (.lt (.lit (.int (n : Int))) (.len (.arg 0)))).holds [] { args := [.list (ns.map .int)] } = true := by
      have h4 := (holds_andW hc).1
      rw [hn] at h4
      exact h4
    have h5 := condW_of h4 (w_not (w_lt w_lit (w_len_list (w_arg rfl))))
    rw [List.length_map] at h5
    refine Nat.le_of_not_lt fun q => ?_
    have q' : (n : Int) < ((ns.length : Nat) : Int) := by omega
    first
      | (rw [decide_eq_true q'] at h5; exact absurd h5 (by decide))
      | (simp at h5; omega)
  cases hwl with
  | cons w1 w2 =>
    cases w2
    cases w1 with
    | list ho hall => exact ⟨_, _, ns, rfl, rfl, ho, ints_of_wellAll ns _ hall, hlen⟩

theorem post_true (l : OpenLaw) (args : List WData) : l.row.toRowW.claim.post args (.bool true) args = true :=
  postW_of (r := l.row.toRowW) (X := (true == true))
    (show WShape.has [] (.bool true) .bool = true by first | rfl | decide | simp [WShape.has, WShape.arms, WShape.armsAll])
    (show (WTm.eq .res (.lit (.bool true))).value [] { args := args, res := some (.bool true), after := args } = some (.bool (true == true)) from w_eq_bool (w_res rfl) w_lit) rfl

/-! ### the attachment: holds_open's last premise (the goal 'hc' behind k_head) from a wpAny of the law's body -/
/-- the same from a codeAny of the CALL (for a layer whose function contracts speak of calls) -/
theorem attach_call {l : OpenLaw} {n : Nat} {q : Program} {loose : List Str} {XP : (Str → Option Value) → Heap → Prop} {YP : World → Heap → Prop} {d : DefRec}
    (hn : l.most = some n) (hdf : d.params.defaults = [])
    (call : ∀ (w : World) (s₀ s₁ : Shared) (mg mb : Str → Option Value) (fa : Addr) (o : Obj) (pm cd doc : Value) (a : Addr) (vs : List Value) (ns : List Int),
      Ground q loose [] XP w s₀ mg mb s₁.heap → YP w s₁.heap →
      s₁.heap.get? fa = some o → o.data = .func (docDef d.name d.params d.body d.scope pm cd doc) → s₁.heap.CodeRec cd d.name → mg d.name = some (.ref fa) →
      s₁.heap.get? a = some { cls := .type "list", data := .seq vs.toArray } → IntsAre vs ns → ns.length ≤ n → s₁.gens = #[] →
      codeAny (model l.prog w) callerA (.call (.ref fa) ⟨[.ref a], []⟩) (fun r s' => r = .ok (.ret (.bool true)) ∧ OldK s₁.heap s'.heap ∧ s'.os = s₁.os ∧ AllBare s'.gens) s₁) :
    WalkO q loose XP YP l.row.toRowW d [] (fun f vs => PySem.call f vs) := by
  intro w s₀ s₁ mg mb G Y fa o pm cd doc dV kV ho hd hcd hD hmg hg args vals as hpre hlay hrd hwl hlo
  obtain rfl : dV = .none := Dflts.none hD hdf
  obtain rfl : kV = .none := Dflts.noKw hD
  obtain ⟨a, vs, ns, rfl, rfl, hobj, hints, hlen⟩ := script_of hn hpre hwl
  refine enter_call (codeAny_mono (call w s₀ s₁ mg mb fa o pm cd doc a vs ns G Y ho (fd_plain hd) hcd hmg hobj hints hlen hg) fun r s' hq => ?_)
  obtain ⟨rfl, h2, h3, h4⟩ := hq
  exact ⟨.inl ⟨.bool true, .bool true, [], rfl, fun _ => rfl, .bool true, post_true l _, fun _ => ⟨List.Pairwise.nil, fun _ hm => (nomatch hm)⟩⟩, h2, h3, h4⟩

/-! ### rules over ANY heap (no ledger) from facts about the written part K: the library's own take a ledger (News) for what they write -/
section
variable {prog : Program} {w : World} {A : Around} {E : Value → Shared → Prop} {s : Shared} {K : Frag}

/-! the whole heap as the ledger: makes every rule that writes through a ledger a rule over any heap -/
def ledger (h : Heap) (L d : Addr) : List (Addr × Obj) := (List.range h.objs.size).filterMap fun a => if a = L ∨ a = d then none else (h.get? a).map fun o => (a, o)
end
end Att

namespace L2
open PySem PySem.Spec PyProof.Rows

theorem vals_ints : ∀ {vs : List Value} {ns : List Int}, IntsAre vs ns → Vals (ns.map V.int) vs
  | _, _, .nil => .nil
  | _, _, .cons n t h => .cons ⟨t, rfl⟩ (vals_ints h)

/-- nothing is tracked but the script, known to the object (or it is an object of the module) -/
def Only (H : Hp) : Prop := ∀ b, H b = none ∨ ∃ o xs, H b = some (.frz o (.lst xs))

/-- THE HEAD: the law's promise, at the heap behind the top. F, the promise of the law's def, may use that base is part of the heap (so K.In base, base.Ns mainGlobals mg stand in Mod) -/
theorem law_call {P : Program} {w : World} {K : PySem.W.Frag} {mg mb : Str → Option Value} {CX : CXT} {k : Nat} {fa a : Addr} {fd : FuncData} {x : Str} {sp : Sp} {s₁ : Shared} {vs : List Value} {ns : List Int}
    (KX : K.In s₁.heap) (hns : s₁.heap.Ns mainGlobals mg) (hb : s₁.heap.Ns builtinsNs mb) (hbb : ∀ x : Str, x ≠ "__name__" → mb x = bootBuiltins x) (hlim : s₁.heap.NoLimit) (hg : s₁.gens = #[])
    (ha : s₁.heap.get? a = some { cls := .type "list", data := .seq vs.toArray }) (hi : IntsAre vs ns) (hl : ns.length ≤ sizeLine) (hr : Room k callerA)
    (F : ∀ base : Heap, K.In base → base.Ns mainGlobals mg → FnOk P w K mg base CX k fa fd [x] sp) (hbind : ∀ (s : Shared) (u : Value), BindsTo s fd ⟨[u], []⟩ [(x, u)])
    (hsp : ∀ H : Hp, Only H → SqL K H a (ns.map V.int) → sp [.ref a] H (fun v _ => v = .bl true) fun _ _ _ => False)
    (hCX : ∀ H e s', CX [] H s₁ (fun _ _ _ => False) e s' → False) :
    codeAny (model P w) callerA (.call (.ref fa) ⟨[.ref a], []⟩) (fun r s' => r = .ok (.ret (.bool true)) ∧ OldK s₁.heap s'.heap ∧ s'.os = s₁.os ∧ AllBare s'.gens) s₁ := by
  have rv := vals_ints hi
  have lenV := hi.length
  -- from an abstract heap in which nothing but the script may be tracked
  have core : ∀ H : Hp, Only H → SqL K H a (ns.map V.int) → HOk P w H s₁.heap → (∀ b, H b ≠ none → b = a) → (H a ≠ none → K.lookup a = none) →
      codeAny (model P w) callerA (.call (.ref fa) ⟨[.ref a], []⟩) (fun r s' => r = .ok (.ret (.bool true)) ∧ OldK s₁.heap s'.heap ∧ s'.os = s₁.os ∧ AllBare s'.gens) s₁ := by
    intro H hO hS hok hA hK
    have base_of : ∀ {b : Addr} {o : Obj}, s₁.heap.get? b = some o → H b = none → (hidT s₁.heap H).get? b = some o := fun e n => hidT_get e n
    have noA : ∀ {b : Addr} {o : Obj} {es : Array DictEntry} {ep : Nat}, s₁.heap.get? b = some o → o.data = .dict es ep → H b = none := fun {b o es ep} e d => by
      cases q : H b with
      | none => rfl
      | some u =>
        have e' : b = a := hA b (by rw [q]; simp)
        subst e'
        rw [ha] at e; cases e
        have d' : Data.seq vs.toArray _ = Data.dict es ep := d
        cases d'
    have nsK : ∀ {b : Addr} {m : Str → Option Value}, s₁.heap.Ns b m → (hidT s₁.heap H).Ns b m := fun {b m} ⟨o, es, ep, e, d, r⟩ => ⟨o, es, ep, base_of e (noA e d), d, r⟩
    have hKb : K.In (hidT s₁.heap H) := fun b o e => base_of (KX b o e) (by
      cases q : H b with
      | none => rfl
      | some u =>
        have e' : b = a := hA b (by rw [q]; simp)
        subst e'
        rw [hK (by rw [q]; simp)] at e; cases e)
    have hM : Mod K mg (hidT s₁.heap H) := ⟨hKb, nsK hns, ⟨mb, nsK hb, hbb⟩, let ⟨mc, h1, h2⟩ := hlim; ⟨mc, nsK h1, h2⟩⟩
    have e0 : Env0 P w K mg (hidT s₁.heap H) callerA [] s₁ H := ⟨rfl, hM, fun b o e => of_hidT e, Nat.le_of_eq (hidT_size _ _), trivial, fun b hb => absurd (show b ∈ ([] : List Addr) from hb) (by simp), hok, .of_eq hg⟩
    refine codeAny_mono ((F _ hKb (nsK hns)).run callerA [] s₁ H ⟨[.ref a], []⟩ [.ref a] [.ref a] _ _ hr e0 (hbind s₁ (.ref a)) (.cons rfl .nil) (hsp H hO hS)) fun r s' h => ?_
    cases r with
    | error e => exact (hCX H e s' h).elim
    | ok fl =>
      cases fl with
      | next => exact False.elim h
      | brk => exact False.elim h
      | cont => exact False.elim h
      | ret u =>
        obtain ⟨v, H', os, bare, un, hok', r', q⟩ := h
        have q' : v = .bl true := q
        subst q'
        obtain rfl : u = Value.bool true := r'
        refine ⟨rfl, OldK.of_keep fun b o e => ?_, os, bare⟩
        cases q : H b with
        | none => exact un.keep b o e q (by intro z; exact absurd (show b ∈ ([] : List Addr) from z) (by simp)) (by simp)
        | some u =>
          rcases hO b with z | ⟨ob, xs, z⟩
          · rw [q] at z; cases z
          · have z2 := un.frzs b ob _ z
            obtain ⟨e1, _⟩ := hok b _ z
            obtain ⟨e2, _⟩ := hok' b _ z2
            rw [e] at e1; cases e1
            exact e2
  cases hk : K.lookup a with
  | some o =>
    -- the script is one of the module's own objects
    have e := KX a o hk
    rw [ha] at e
    cases e
    refine core (fun _ => none) (fun _ => .inl rfl) (.inr ⟨_, vs.toArray, _, hk, rfl, rfl, rfl, by rw [List.size_toArray, lenV]; exact hl, by simpa using rv⟩) (fun b u z => by have z' : (none : Option HO) = some u := z; cases z') (fun b z => absurd rfl z) fun z => absurd rfl z
  | none =>
    refine core (fun b => if b = a then some (.frz { cls := .type "list", data := .seq vs.toArray } (.lst (ns.map V.int))) else none) (fun b => ?_) (.inl (.inr ⟨{ cls := .type "list", data := .seq vs.toArray }, if_pos rfl⟩)) (fun b u z => ?_) (fun b z => ?_) fun _ => hk
    · by_cases hb : b = a
      · exact .inr ⟨_, _, if_pos hb⟩
      · exact .inl (if_neg hb)
    · by_cases hb : b = a
      · have z' := (if_pos hb).symm.trans z
        cases z'
        subst hb
        exact ⟨ha, by rw [List.length_map]; exact hl, vs, _, rv, ha⟩
      · have z' := (if_neg hb).symm.trans z
        cases z'
    · by_cases hb : b = a
      · exact hb
      · exact absurd (if_neg hb) z
end L2

namespace L2
open PySem PySem.Spec PyProof.Rows

abbrev KOf {K : PySem.W.Frag} {h : Heap} (_ : K.In h) : PySem.W.Frag := K

/-- the goal that k_head leaves (case hc), from the law's promise. F gives the function object fd (K's own) once, then the promise over every base -/
theorem walk_of {l : PySem.W.OpenLaw} {n k : Nat} {q : Program} {loose : List Str} {XP : (Str → Option Value) → Heap → Prop} {YP : World → Heap → Prop} {d : DefRec} {K : Params → PySem.W.Frag} {CX : World → CXT} {sp : World → Sp} {x : Str}
    (hn : l.most = some n) (hn2 : n ≤ sizeLine) (hdf : d.params.defaults = []) (hr : Room k callerA)
    (hY : ∀ (w : World) (h : Heap), YP w h → (K w.params).In h)
    (F : ∀ (w : World) (mg : Str → Option Value) (fa : Addr) (h : Heap), (K w.params).In h → h.Ns mainGlobals mg → mg d.name = some (.ref fa) →
      ∃ fd : FuncData, (∀ (s : Shared) (u : Value), BindsTo s fd ⟨[u], []⟩ [(x, u)]) ∧
        ∀ base : Heap, (K w.params).In base → base.Ns mainGlobals mg → FnOk l.prog w (K w.params) mg base (CX w) k fa fd [x] (sp w))
    (hsp : ∀ (w : World) (H : Hp) (a : Addr) (ns : List Int), ns.length ≤ n → Only H → SqL (K w.params) H a (ns.map V.int) → sp w [.ref a] H (fun v _ => v = .bl true) fun _ _ _ => False)
    (hCX : ∀ (w : World) (H : Hp) (s : Shared) (e : Value) (s' : Shared), CX w [] H s (fun _ _ _ => False) e s' → False) :
    PySem.W.WalkO q loose XP YP l.row.toRowW d [] (fun f vs => PySem.call f vs) := by
  refine Att.attach_call hn hdf fun w s₀ s₁ mg mb fa o pm cd doc a vs ns G Y ho hd hcd hmg hobj hints hlen hg => ?_
  have KX := hY w _ Y
  obtain ⟨fd, hb, hF⟩ := F w mg fa _ KX G.T.g hmg
  exact law_call KX G.T.g G.T.b G.T.builtins G.T.nolimit hg hobj hints (Nat.le_trans hlen hn2) hr hF hb (fun H hO hS => hsp w H a ns hlen hO hS) fun H e s' => hCX w H s₁ e s'
end L2

/- THE LAST THEOREM (shape; LID, My.* are yours):
   My.Adr: a structure of the addresses that your layer names (classes, functions); My.Txt K t: a structure (Prop) of the equations over K;
   My.txt_mk : {K} {implicit addresses ..} (e1 : nsIn K mainGlobals "law" = some (some (.ref f))) (e2 : K.lookup f = some ⟨oc, od, .func (fnOf "law" "law" params body scope dV kV doc pm an cdv ct), sl⟩) (e3 : codeIn K cdv "law" = true) .. : ∃ t, My.Txt K t

set_option maxRecDepth 100000 in
set_option maxHeartbeats 0 in
theorem PySem.Challenge.cw_LID_holds : PySem.Challenge.rw_LID.Holds := by
  w_on; o_law; k_head; (case hw => w_witness2)
  k_fill
  refine L2.walk_of (l := PySem.Challenge.rw_LID) (n := 63) (k := 40) (x := "script") (CX := fun w => ..) (sp := fun _ => My.sp_law) rfl (by decide) rfl ⟨rfl, by decide, by decide⟩ (fun w h Y => PySem.W.kIn_of Y) ?F ?S ?C
  case F =>
    intro w mg fa h KX G hmg
    have T : ∃ t, My.Txt (L2.KOf KX) t := by
      dsimp only [L2.KOf]                          -- K must stand as «<heap const> w.params» for k_is
      refine' My.txt_mk ?e1 ?e2 ?e3 ..
      (case e1 => PySem.W.k_is)                    -- in the order: a name -> its address -> its object -> its parts
      (case e2 => PySem.W.k_is)
      ..
    obtain ⟨t, T⟩ := T
    have e0 := hmg.symm.trans (PySem.W.mg_of KX G T.law)
    cases e0                                       -- fa is the law's own address
    exact ⟨_, fun s u => .of_eq rfl, fun base kb nb => My.law_fn T kb nb⟩     -- if «.of_eq rfl» comes too early: refine' ⟨_, ?b, fun base kb nb => My.law_fn T kb nb⟩; exact fun s u => .of_eq rfl
  case S => exact fun w H a ns hl hO hS => ..
  case C => exact ..
(the tactic k_is has no namespace: write k_is) -/

/-! SHORT WORDS over the layer: a def of the text, its body, what a loop and a test want. -/
namespace L2
open PySem PySem.Spec PyProof.Rows

/-! ### the text by places -/
def defArgs (s : Stmt) : Arguments := match s with
  | .FunctionDef _ a _ _ _ _ _ _ _ _ => a
  | _ => { posonlyargs := [], args := [], vararg := none, kwonlyargs := [], kw_defaults := [], kwarg := none, defaults := [] }
def defBody (s : Stmt) : List Stmt := match s with
  | .FunctionDef _ _ b _ _ _ _ _ _ _ => b
  | _ => []
def defScope (s : Stmt) : Scope := match s with
  | .FunctionDef _ _ _ _ _ _ sc _ _ _ => sc
  | _ => { kind := .function, names := [], isGenerator := false, isCoroutine := false }

/-! ### no exception leaves a def -/
abbrev CX0 : CXT := fun _ _ _ _ _ _ => False
abbrev E0 : XK := fun _ _ _ => False
theorem pass0 {X : Cx} : Passes CX0 X E0 := fun _ _ _ _ _ _ _ h => h.elim

/-! ### a def (or method) of the text as it stands behind the top -/
structure Fun (K : PySem.W.Frag) (x qual : Str) (st : Stmt) (f : Addr) (fd : FuncData) : Prop where
  ex : ∃ (oc : Value) (od : Option Addr) (kV doc pm : Value) (an : Option Addr) (cdv ct : Value) (osl : Array (Option Value)),
    fd = PySem.W.fnOf x qual (defArgs st) (defBody st) (defScope st) .none kV doc pm an cdv ct ∧ K.lookup f = some ⟨oc, od, .func fd, osl⟩ ∧ PySem.W.codeIn K cdv qual = true
  kp : PySem.W.keepIn K (.ref f) = true
section
variable {P : Program} {w : World} {K : PySem.W.Frag} {mg : Str → Option Value} {base : Heap}
/-- THE RULE for a def: its body as a term of rules, and the reading of that term -/
theorem Fun.ok {x qual : Str} {st : Stmt} {f : Addr} {fd : FuncData} {N ps : List Str} {k : Nat} {sp : Sp} (F : Fun K x qual st f fd) (S : FnScope N ps (defScope st)) (len : ∀ vs H Q E, sp vs H Q E → vs.length = ps.length)
    (hbody : ∀ (cdv : Value) (A : Around) (outer : List Env) (s : Shared) (H : Hp) (vs : List V) (Q : VK) (E : XK), Room k (A.deeper (envOfC qual (defScope st) s.heap.objs.size f cdv)) → sp vs H Q E →
      ∃ t, PSs (cxOf CX0 P w K mg base N qual (defScope st) f cdv A outer s H E).nox (defBody st) t ∧ t { nx := fun _ H' => Q .non H', rt := Q } (start N vs) H) : FnOk P w K mg base CX0 (k + 1) f fd ps sp := by
  obtain ⟨oc, od, kV, doc, pm, an, cdv, ct, osl, rfl, lk, hcd⟩ := F.ex
  refine fn_of lk hcd S len fun A outer s H vs Q E hr hsp => ?_
  obtain ⟨t, h, q⟩ := hbody cdv A outer s H vs Q E hr hsp
  exact ⟨t, h.nox, q⟩
/-- how its arguments bind (no defaults): h is «fun _ _ _ _ _ _ us hl => match us, hl with | [_, _], _ => rfl», one _ a parameter -/
theorem Fun.binds {x qual : Str} {st : Stmt} {f : Addr} {fd : FuncData} {ps : List Str} (F : Fun K x qual st f fd)
    (h : ∀ (kV doc pm : Value) (an : Option Addr) (cdv ct : Value) (us : List Value), us.length = ps.length → bindArgs (PySem.W.fnOf x qual (defArgs st) (defBody st) (defScope st) .none kV doc pm an cdv ct) ⟨us, []⟩ = pure (ps.zip us)) : Binds K fd ps [] := by
  obtain ⟨oc, od, kV, doc, pm, an, cdv, ct, osl, rfl, lk, hcd⟩ := F.ex
  exact .all (h kV doc pm an cdv ct)
theorem fun_mk {x qual : Str} {st : Stmt} {f : Addr} {oc : Value} {od an : Option Addr} {osl : Array (Option Value)} {kV doc pm cdv ct : Value} (l : K.lookup f = some ⟨oc, od, .func (PySem.W.fnOf x qual (defArgs st) (defBody st) (defScope st) .none kV doc pm an cdv ct), osl⟩)
    (c : PySem.W.codeIn K cdv qual = true) (k : PySem.W.keepIn K (.ref f) = true) : Fun K x qual st f (PySem.W.fnOf x qual (defArgs st) (defBody st) (defScope st) .none kV doc pm an cdv ct) := ⟨⟨oc, od, kV, doc, pm, an, cdv, ct, osl, rfl, l, c⟩, k⟩
end
/-! ### expressions in short: the name that stands in the i-th slot -/
section
variable {X : Cx}
end

/-! ### tests -/
/-! ### heaps -/
/-- all that was tracked is as it was -/
def Same (H H' : Hp) : Prop := ∀ b o, H b = some o → H' b = some o
theorem Same.refl (H : Hp) : Same H H := fun _ _ h => h
theorem Same.trans {H H1 H2 : Hp} (a : Same H H1) (b : Same H1 H2) : Same H H2 := fun c o h => b c o (a c o h)
theorem Same.free {H H' : Hp} (e : Same H H') {l : Addr} (h : H' l = Option.none) : H l = Option.none := by
  cases q : H l with
  | none => rfl
  | some o =>
    rw [e l o q] at h
    cases h
theorem Same.seq {K : PySem.W.Frag} {H H' : Hp} {a : Addr} {xs : List V} (e : Same H H') (h : SqL K H a xs) : SqL K H' a xs := by
  rcases h with (h | ⟨o, h⟩) | h
  · exact .inl (.inl (e _ _ h))
  · exact .inl (.inr ⟨o, e _ _ h⟩)
  · exact .inr h

end L2

set_option Elab.async false
set_option linter.all false
set_option maxRecDepth 100000
namespace L2
open PySem PySem.Spec PyProof.Rows

/-! ### comprehensions -/
theorem compLoop_any {prog : Program} {w : World} {A : Around} {R : Result → Shared → Prop} {s : Shared} {elt target iter : Expr} {ifs : List Expr} {scope : Scope} {pos : Pos} {it acc : Value} {env : Env} (I : Nat → Shared → Prop)
    (turn : ∀ n s, I n s → wpAny (model prog w) A (pyNext it) (fun r s₁ => match r with
      | none => R (.ok .next) s₁
      | some v => wpAny (model prog w) A (letOwnedTupleGo target it v) (fun _ s₁' => wpAny (model prog w) A (assign target env v) (fun _ s₂ =>
          wpAny (model prog w) A (forIn ifs true fun c r => if r = true then do let ok ← isTrue c env (eval c env); pure (ForInStep.yield ok) else pure (ForInStep.yield r)) (fun ok s₃ =>
            if ok = true then wpAny (model prog w) A (eval elt env) (fun x s₄ =>
              wpAny (model prog w) A (call (.builtin "list.append") [acc, x]) (fun _ s₅ => ∃ m, m < n ∧ I m s₅) (fun _ _ => False) s₄) (fun _ _ => False) s₃
            else ∃ m, m < n ∧ I m s₃) (fun _ _ => False) s₂) (fun _ _ => False) s₁') (fun _ _ => False) s₁) (fun _ _ => False) s)
    (n : Nat) (h : I n s) :
    codeAny (model prog w) A (.compLoop (.ListComp elt [⟨target, iter, ifs, 0⟩] scope pos) 0 it acc env) R s := by
  refine codeAny_loop rfl I (fun n s hI => ?_) n h
  show wpAny _ A ((compTurn (.ListComp elt [⟨target, iter, ifs, 0⟩] scope pos) 0 it acc env).onRaise (fun x => do noteFrame x env; theTreesLotGoes x)) _ _ s
  refine wpAny_noted ?_
  rw [compTurn_list]
  refine wpAny_bind (wpAny_standAt (wpAny_bind (wpAny_mono (turn n s hI) (fun r s₁ h₁ => ?_) fun _ _ h' => h'.elim)))
  cases r with
  | none => exact wpAny_pure h₁
  | some v =>
    refine wpAny_bind (wpAny_mono h₁ (fun _ s₁' h₁' => ?_) fun _ _ h' => h'.elim)
    refine wpAny_bind (wpAny_mono h₁' (fun _ s₂ h₂ => wpAny_bind (wpAny_mono h₂ (fun ok s₃ h₃ => ?_) fun _ _ h' => h'.elim)) fun _ _ h' => h'.elim)
    cases ok with
    | false => exact wpAny_pure ⟨rfl, h₃⟩
    | true =>
      exact wpAny_bind (wpAny_bind (wpAny_mono h₃ (fun x s₄ h₄ => wpAny_bind (wpAny_mono h₄ (fun _ s₅ h₅ => wpAny_pure (wpAny_pure ⟨rfl, h₅⟩)) fun _ _ h' => h'.elim)) fun _ _ h' => h'.elim))

/-- the tests of a clause -/
def PTs (X : Cx) (ifs : List Expr) (t : TT) : Prop :=
  ∀ (pins : List (Addr × Obj)) (s : Shared) (σ : St) (H : Hp) (Q : Bool → Hp → Prop), Inv X pins σ H s → t σ H Q →
    wpAny (model X.prog X.w) X.A (forIn ifs true fun c r => if r = true then do let ok ← isTrue c X.env (eval c X.env); pure (ForInStep.yield ok) else pure (ForInStep.yield r)) (TP X pins σ Q) X.xe s
def tYes : TT := fun _ H Q => Q true H
theorem pts_nil {X : Cx} : PTs X [] tYes := fun _ _ _ H _ I h => wpAny_tests_nil ⟨H, I, h⟩
theorem pts_one {X : Cx} {c : Expr} {t : TT} (h : PT X c t) : PTs X [c] t := fun pins s σ H Q I hw => wpAny_tests_one (h pins s σ H Q I hw)

/-- the closure of a comprehension: the cells of its free names -/
theorem closure_ex {env : Env} : ∀ (names : List (Str × NameKind)) (acc : List (Str × Addr)), (∀ y ∈ names, y.2 = .free → ∃ c, env.cells.lookup y.1 = some c) → (∀ y ∈ acc, env.cells.lookup y.1 = some y.2) →
    ∃ cl : List (Str × Addr), (forIn (m := Sem) names acc fun (x : Str × NameKind) cs => if (x.2 == NameKind.free) = true then (do let a ← cellOf env x.1; pure (ForInStep.yield ((x.1, a) :: cs))) else pure (ForInStep.yield cs)) = pure cl ∧
      (∀ y ∈ cl, env.cells.lookup y.1 = some y.2) ∧ (∀ y ∈ acc, y ∈ cl) ∧ ∀ y ∈ names, y.2 = .free → ∃ c, (y.1, c) ∈ cl
  | [], acc, _, ha => ⟨acc, rfl, ha, fun _ h => h, fun _ h => nomatch h⟩
  | (n, k) :: r, acc, hf, ha => by
    by_cases hk : k = .free
    · subst hk
      obtain ⟨c, hc⟩ := hf (n, .free) List.mem_cons_self rfl
      obtain ⟨cl, e, h1, h2, h3⟩ := closure_ex r ((n, c) :: acc) (fun y hy => hf y (List.mem_cons_of_mem _ hy)) (fun y hy => by
        rcases List.mem_cons.mp hy with rfl | hy
        · exact hc
        · exact ha y hy)
      refine ⟨cl, ?_, h1, fun y hy => h2 y (List.mem_cons_of_mem _ hy), fun y hy hk => ?_⟩
      · rw [List.forIn_cons]
        have e1 : cellOf env n = pure c := by unfold cellOf; rw [hc]
        simp only [beq_self_eq_true, if_true, e1]
        exact e
      · rcases List.mem_cons.mp hy with rfl | hy
        · exact ⟨c, h2 _ List.mem_cons_self⟩
        · exact h3 y hy hk
    · have hb : (k == NameKind.free) = false := by simpa using hk
      obtain ⟨cl, e, h1, h2, h3⟩ := closure_ex r acc (fun y hy => hf y (List.mem_cons_of_mem _ hy)) ha
      refine ⟨cl, ?_, h1, h2, fun y hy hk' => ?_⟩
      · rw [List.forIn_cons]
        simp only [hb, Bool.false_eq_true, if_false]
        exact e
      · rcases List.mem_cons.mp hy with rfl | hy
        · exact absurd hk' hk
        · exact h3 y hy hk'
theorem closureFor_ex {env : Env} {scope : Scope} (hf : ∀ y ∈ scope.names, y.2 = .free → ∃ c, env.cells.lookup y.1 = some c) :
    ∃ cl : List (Str × Addr), closureFor scope env = pure cl ∧ (∀ y ∈ cl, env.cells.lookup y.1 = some y.2) ∧ ∀ y ∈ scope.names, y.2 = .free → ∃ c, (y.1, c) ∈ cl := by
  obtain ⟨cl, e, h1, _, h3⟩ := closure_ex scope.names [] hf (fun _ h => nomatch h)
  refine ⟨cl, ?_, h1, h3⟩
  unfold closureFor
  simp only [bind_pure]
  exact e
end L2

set_option Elab.async false
set_option linter.all false
set_option maxRecDepth 100000
namespace L2
open PySem PySem.Spec PyProof.Rows

/-- the context of a comprehension's block -/
abbrev cxComp (X : Cx) (scope : Scope) (cl : List (Str × Addr)) (C : Addr) (N : List Str) (s₀ : Shared) (H₀ : Hp) (ex : List Addr) : Cx where
  prog := X.prog
  w := X.w
  K := X.K
  mg := X.mg
  base := X.base
  A := X.A
  N := N
  s₀ := s₀
  H₀ := H₀
  env := compEnvC scope cl C X.env
  outer := X.stack
  stack := X.stack
  ex := ex
  fn := fun _ => false
  calm := X.calm
  pn := []
  xe := fun _ _ => False

theorem lookup_mem {α β : Type} [BEq α] [LawfulBEq α] {l : List (α × β)} {x : α} {y : β} (h : l.lookup x = some y) : (x, y) ∈ l := by
  induction l with
  | nil => cases h
  | cons p r ih =>
    obtain ⟨a, b⟩ := p
    rw [List.lookup_cons] at h
    cases e : (x == a) with
    | true => rw [e] at h; cases h; rw [eq_of_beq e]; exact List.mem_cons_self
    | false => rw [e] at h; exact List.mem_cons_of_mem _ (ih h)
theorem mem_lookup {α β : Type} [BEq α] [LawfulBEq α] {l : List (α × β)} {x : α} {y : β} (h : (x, y) ∈ l) : ∃ z, l.lookup x = some z := by
  induction l with
  | nil => cases h
  | cons p r ih =>
    obtain ⟨a, b⟩ := p
    rw [List.lookup_cons]
    cases e : (x == a) with
    | true => exact ⟨_, rfl⟩
    | false =>
      rcases List.mem_cons.mp h with q | q
      · cases q; simp at e
      · exact ih q
theorem relabel_mem {scope : Scope} {env : Env} {y : Str} {k : NameKind} (h : (y, k) ∈ (relabel scope env).names) : (y, k) ∈ scope.names ∨ (k = .cell ∧ (y, NameKind.free) ∈ scope.names) := by
  unfold relabel at h
  obtain ⟨⟨n, k'⟩, hm, e⟩ := List.mem_map.mp h
  dsimp only at e
  split at e
  · rename_i hc
    cases e
    have : k' = .free := by
      have := hc
      simp only [Bool.and_eq_true, beq_iff_eq] at this
      exact this.1.1
    subst this
    exact .inr ⟨rfl, hm⟩
  · cases e; exact .inl hm

theorem lookup_relabel_free {env : Env} : ∀ {names : List (Str × NameKind)} {x : Str}, names.lookup x = some .free →
    (names.map fun (n, k) => if (k == NameKind.free && env.scope.kind == .function && env.kindOf n == some .cell) then (n, NameKind.cell) else (n, k)).lookup x = some .cell ∨
    (names.map fun (n, k) => if (k == NameKind.free && env.scope.kind == .function && env.kindOf n == some .cell) then (n, NameKind.cell) else (n, k)).lookup x = some .free
  | [], _, h => by simp at h
  | (n, k) :: r, x, h => by
    have ih := @lookup_relabel_free env r x
    show List.lookup x ((if (k == NameKind.free && env.scope.kind == .function && env.kindOf n == some .cell) = true then (n, NameKind.cell) else (n, k)) :: _) = _ ∨ List.lookup x ((if (k == NameKind.free && env.scope.kind == .function && env.kindOf n == some .cell) = true then (n, NameKind.cell) else (n, k)) :: _) = _
    cases hx : x == n with
    | true =>
      simp only [List.lookup_cons, hx] at h
      cases h
      by_cases hc : (NameKind.free == NameKind.free && env.scope.kind == .function && env.kindOf n == some .cell) = true
      · rw [if_pos hc]; simp [List.lookup_cons, hx]
      · rw [if_neg hc]; simp [List.lookup_cons, hx]
    | false =>
      simp only [List.lookup_cons, hx] at h
      by_cases hc : (k == NameKind.free && env.scope.kind == .function && env.kindOf n == some .cell) = true
      · rw [if_pos hc]; simp only [List.lookup_cons, hx]; exact ih h
      · rw [if_neg hc]; simp only [List.lookup_cons, hx]; exact ih h

/-- the slots of the block: the loop's name, then the free names -/
def compSt (fs : List Nat) (σ : St) : St := fs.map fun j => (σ[j]?).join
/-- [e for x in it if t]: W the invariant by the turn, a measure, the items so far and the heap -/
def tComp (wi : TI) (fs : List Nat) (tt : TT) (te : TE) : TE := fun σ H Q => wi σ H fun J H1 => ∃ W : Nat → Nat → List V → Hp → Prop, (∃ m, W 0 m [] H1) ∧ ∀ i m ys H, W i m ys H → ys.length ≤ sizeLine ∧
  ((J.stop i H ∧ ∀ p, H p = none → Q (.ref p) (upd H p (.lst ys))) ∨
   (J.go i H ∧ ys.length < sizeLine ∧ ∀ x H', J.yld i H x H' → tt (some x :: compSt fs σ) H' fun b H2 => if b = true then te (some x :: compSt fs σ) H2 fun y H3 => ∃ m', m' < m ∧ W (i + 1) m' (ys ++ [y]) H3 else ∃ m', m' < m ∧ W (i + 1) m' ys H2))

section
variable {X : Cx}
theorem comp_block {elt iter : Expr} {x : Str} {px pos : Pos} {ifs : List Expr} {scope : Scope} {fs : List (Str × Nat)} {tt : TT} {te : TE}
    {pins : List (Addr × Obj)} {σ : St} {H2 : Hp} {s2 : Shared} {it : Addr} {fp : List Addr} {tn : Nat → Heap → Prop} {J : It} {cl : List (Str × Addr)} {E : Value → Shared → Prop}
    {P : Value → Addr → Result → Shared → Prop}
    (hc : X.calm = true) (hkind : scope.kind = .function) (hcell : ∀ y ∈ scope.names, y.2 ≠ .cell) (hx : scope.names.lookup x = some .local)
    (hnd : (x :: fs.map (·.1)).Nodup) (hfs : ∀ f ∈ fs, X.N[f.2]? = some f.1 ∧ (X.env.kindOf f.1 = some .cell ∨ X.env.kindOf f.1 = some .free) ∧ scope.names.lookup f.1 = some .free)
    (hb : ∀ (cl : List (Str × Addr)) (C : Addr) (s₀ : Shared) (H₀ : Hp) (ex : List Addr), PTs (cxComp X scope cl C (x :: fs.map (·.1)) s₀ H₀ ex) ifs tt ∧ PE (cxComp X scope cl C (x :: fs.map (·.1)) s₀ H₀ ex) elt te)
    (hcl1 : ∀ y ∈ cl, X.env.cells.lookup y.1 = some y.2) (hcl2 : ∀ y ∈ scope.names, y.2 = .free → ∃ c, (y.1, c) ∈ cl)
    (I2 : Inv X pins σ H2 s2) (T : Turn X.prog X.w X.K (.Name x px) J fp it tn) (st2 : tn 0 s2.heap) (f2 : ∀ b ∈ fp, FpOk X pins H2 b)
    (W : Nat → Nat → List V → Hp → Prop) (Qe : Hp → List V → Prop) (w0 : ∃ m, W 0 m [] H2)
    (turn : ∀ i m ys H, W i m ys H → ys.length ≤ sizeLine ∧
      ((J.stop i H ∧ Qe H ys) ∨
       (J.go i H ∧ ys.length < sizeLine ∧ ∀ x H', J.yld i H x H' → tt (some x :: compSt (fs.map (·.2)) σ) H' fun b H2 => if b = true then te (some x :: compSt (fs.map (·.2)) σ) H2 fun y H3 => ∃ m', m' < m ∧ W (i + 1) m' (ys ++ [y]) H3 else ∃ m', m' < m ∧ W (i + 1) m' ys H2)))
    (hP : ∀ (D C : Addr) (H' : Hp) (s' : Shared) (ys : List V) (its : List Value) (m : Str → Option Value), s2.heap.objs.size ≤ C → s2.heap.get? D = none → s2.heap.get? C = none → D ≠ C → H' D = none → H' C = none → s'.heap.Ns C m → s'.heap.PlainList D its.toArray → Vals ys its → ys.length ≤ sizeLine → Qe H' ys →
      Un (frs X.stack) fp H2 H' s2.heap s'.heap → HOk X.prog X.w H' s'.heap → AllBare s'.gens → s'.os = s2.os → P (.ref D) C (.ok .next) s') :
    wpAny (model X.prog X.w) X.A (newList []) (fun acc s₃ => wpAny (model X.prog X.w) X.A (newFunctionEnv scope X.env.globals cl [] X.env.qual none .none (some X.env)) (fun cenv s₄ =>
      codeAny (model X.prog X.w) X.A (.compStart (.ListComp elt [⟨.Name x px, iter, ifs, 0⟩] scope pos) 0 (.ref it) acc { cenv with scope := relabel scope X.env }) (P acc cenv.locals) s₄) E s₃) E s2 := by
  refine wpAny_newObj_type (wpAny_newFunctionEnv hcell (by intro y hy; simp at hy) (fun h₁ hns₁ hsb₁ => ?_) hkind)
  dsimp only at hns₁ hsb₁ ⊢
  generalize hH2 : s2.heap.push { cls := .type "list", dict := none, data := .seq ([] : List Value).toArray } = HH at hns₁ hsb₁ ⊢
  have hC : HH.objs.size = s2.heap.objs.size + 1 := by rw [← hH2, Heap.size_push]
  generalize eD : s2.heap.objs.size = D at *
  generalize eC : HH.objs.size = C at *
  have hDC : D ≠ C := by rw [hC]; exact Nat.ne_of_lt (Nat.lt_succ_self _)
  have fresh : ∀ a, D ≤ a → s2.heap.get? a = none := fun a ha => Heap.get?_none_of_le (by rw [eD]; exact ha)
  have hD0 : s2.heap.get? D = none := fresh D (Nat.le_refl _)
  have hC0 : s2.heap.get? C = none := fresh C (by rw [hC]; exact Nat.le_succ _)
  have old : ∀ b o, s2.heap.get? b = some o → h₁.get? b = some o := fun b o e => hsb₁.extBut b o (fun z => by rw [z, hC0] at e; cases e) (Heap.get?_push_of_some _ (hH2 ▸ Heap.get?_push_of_some _ e))
  have hacc : h₁.PlainList D #[] := ⟨0, hsb₁.extBut _ _ hDC (Heap.get?_push_of_some _ (hH2 ▸ (eD ▸ Heap.get?_push_size _ rfl)))⟩
  have HD : H2 D = none := I2.hok.fresh (by rw [eD]; exact Nat.le_refl _)
  have HC : H2 C = none := I2.hok.fresh (by rw [eD, hC]; exact Nat.le_succ _)
  -- the block's context
  let Y : Cx := cxComp X scope cl C (x :: fs.map (·.1)) s2 H2 fp
  have lk : ∀ y c, cl.lookup y = some c → X.env.cells.lookup y = some c := fun y c e => hcl1 (y, c) (lookup_mem e)
  have yok : Y.Ok := by
    refine ⟨I2.ok.mod, hkind, I2.ok.glob, I2.ok.blt, ?_, fun y z c h1 h2 => I2.ok.inj y z c (lk y c h1) (lk z c h2), fun y hy => ?_, fun _ _ h _ => absurd h Bool.false_ne_true, I2.ok.hd, I2.ok.frames, .inl rfl, fun b hb => ?_, I2.bs, ?_, fun b o e hb => ?_, fun b hb hz => ?_, I2.stack, I2.stkFree⟩
    · show s2.heap.objs.size ≤ C
      rw [eD, hC]; exact Nat.le_succ _
    · have hy' : (relabel scope X.env).names.lookup y = some .cell ∨ (relabel scope X.env).names.lookup y = some .free := hy
      have hm : (y, NameKind.free) ∈ scope.names := by
        rcases hy' with e | e
        · rcases relabel_mem (lookup_mem e) with q | ⟨_, q⟩
          · exact absurd rfl (hcell _ q)
          · exact q
        · rcases relabel_mem (lookup_mem e) with q | ⟨q, _⟩
          · exact q
          · cases q
      obtain ⟨c, q⟩ := hcl2 _ hm rfl
      exact mem_lookup q
    · obtain ⟨f0, f1, f3, f4, f5, f6⟩ := f2 b hb
      refine ⟨fun z => ?_, fun y c e => f5 y c (lk y c e)⟩
      obtain ⟨o, ho, _⟩ := T.obj _ _ st2 b hb
      have z' : b = C := z
      rw [z', hC0] at ho; cases ho
    · exact Nat.le_trans I2.ok.bsz I2.sz
    · obtain ⟨f0, f1, f3, f4, f5, f6⟩ := f2 b hb
      rcases f4 with z | z
      · exact I2.ok.noex b o e z
      · exact absurd (Nat.lt_of_lt_of_le (Heap.lt_size e) (Nat.le_trans I2.ok.bsz z)) (Nat.lt_irrefl _)
    · obtain ⟨f0, f1, f3, f4, f5, f6⟩ := f2 b hb
      rcases List.mem_cons.mp (I2.stkSub b hz) with z | z
      · exact f1 z
      · exact f3 z
  let τ : St := none :: compSt (fs.map (·.2)) σ
  have hτ : τ.length = (x :: fs.map (·.1)).length := by simp [τ, compSt]
  obtain ⟨mL, hnL, hlL⟩ := id I2.loc
  have yI : Inv Y [] τ H2 { s2 with heap := h₁, toks := s2.toks + ([] : List (Str × Value)).length } := by
    refine ⟨yok, rfl, I2.bare, Un.kept old, ⟨_, hns₁, fun i y v e1 e2 e3 => ?_⟩, fun y c e => ?_, HC, fun y c e => I2.freeC y c (lk y c e), (fun p hp => nomatch hp), I2.hok.kept old, hτ⟩
    · cases i with
      | zero => simp [τ] at e2
      | succ i =>
        have e1' : (fs.map (·.1))[i]? = some y := e1
        have e2' : (compSt (fs.map (·.2)) σ)[i]? = some (some v) := by simpa [τ] using e2
        rw [List.getElem?_map] at e1'
        cases q : fs[i]? with
        | none => rw [q] at e1'; cases e1'
        | some f =>
          rw [q] at e1'
          have ey : f.1 = y := Option.some.inj e1'
          obtain ⟨g1, g2, g3⟩ := hfs f (List.mem_of_getElem? q)
          have e2'' : (σ[f.2]?).join = some v := by
            unfold compSt at e2'
            rw [List.getElem?_map, List.getElem?_map, q] at e2'
            exact Option.some.inj e2'
          have e2c : σ[f.2]? = some (some v) := by
            cases r : σ[f.2]? with
            | none => rw [r] at e2''; cases e2''
            | some o => rw [r] at e2''; have e2'' : o = some v := e2''; rw [e2'']
          have vis : Vis X.env.scope f.1 := by
            rcases g2 with g | g
            · exact .inr (.inl g)
            · exact .inr (.inr g)
          obtain ⟨u, ru, lu⟩ := hlL f.2 f.1 v g1 e2c vis
          refine ⟨u, ru, ?_⟩
          have lu' : ∃ c, X.env.cells.lookup f.1 = some c ∧ s2.heap.IsCell c (some u) := by
            rcases lu with ⟨k, _⟩ | ⟨_, c, e, z⟩
            · rcases g2 with g | g
              · rw [k] at g; cases g
              · rw [k] at g; cases g
            · exact ⟨c, e, z⟩
          obtain ⟨c, hc1, hc2⟩ := lu'
          obtain ⟨c', hm⟩ := hcl2 _ (lookup_mem g3) rfl
          have hm' := hcl1 _ hm
          obtain ⟨c2, hl2⟩ := mem_lookup hm
          have := lk _ _ hl2
          rw [hc1] at this; cases this
          obtain ⟨oc, ho, hdt⟩ := hc2
          refine .inr ⟨?_, c, by rw [← ey]; exact hl2, oc, old c oc ho, hdt⟩
          rw [← ey]
          exact lookup_relabel_free g3
    · obtain ⟨v, oc, ho, hdt⟩ := I2.cell y c (lk y c e)
      exact ⟨v, oc, old c oc ho, hdt⟩
  have hx' : Y.env.scope.names.lookup x = some .local := lookup_relabel_local hx
  have fpD : ∀ b ∈ fp, b ≠ D := fun b hb z => by
    obtain ⟨o, ho, _⟩ := T.obj _ _ st2 b hb
    rw [z, hD0] at ho; cases ho
  have stD : D ∉ frs X.stack := fun hz => by
    rcases List.mem_cons.mp (I2.stkSub D hz) with z | z
    · have := I2.lt; rw [eD, ← z] at this; exact absurd this (Nat.lt_irrefl _)
    · exact I2.nofs (by rw [eD]; exact Nat.le_refl _) z
  have cellD : ∀ y c, cl.lookup y = some c → c ≠ D := fun y c e z => by
    obtain ⟨v, oc, ho, _⟩ := I2.cell y c (lk y c e)
    rw [z, hD0] at ho; cases ho
  have stat : ∀ {H' : Hp} {oD : Obj}, (∀ b ∈ fp, H' b = none) → ∀ b ∈ fp, FpOk Y [(D, oD)] H' b := fun hn b hb => by
    refine ⟨hn b hb, (yok.exf b hb).1, yok.exfs b hb, .inl hb, (yok.exf b hb).2, fun p hp z => ?_⟩
    have hp' : p ∈ [(D, _)] := hp
    rw [List.mem_singleton.mp hp'] at z
    exact fpD b hb z.symm
  obtain ⟨m0, w0⟩ := w0
  have loop : ∀ s₃ : Shared, s₃ = { s2 with heap := h₁, toks := s2.toks + ([] : List (Str × Value)).length } →
      codeAny (model X.prog X.w) X.A (.compLoop (.ListComp elt [⟨.Name x px, iter, ifs, 0⟩] scope pos) 0 (.ref it) (.ref D) (compEnvC scope cl C X.env)) (P (.ref D) C) s₃ := by
    rintro s₃ rfl
    refine compLoop_any (fun n s' => ∃ i ys its H', Inv Y [] τ H' s' ∧ tn i s'.heap ∧ (∀ b ∈ fp, H' b = none) ∧ H' D = none ∧ s'.heap.PlainList D (List.toArray its) ∧ Vals ys its ∧ W i n ys H') ?_ m0
      ⟨0, [], [], H2, yI, T.keep _ _ _ st2 (fun b _ o e => old b o e), fun b hb => (f2 b hb).1, HD, hacc, .nil, w0⟩
    rintro n s3 ⟨i, ys, its, H3, I3, st3, fr3, hD3, ⟨n0, hoD⟩, rv3, w3⟩
    obtain ⟨hz, ht⟩ := turn i n ys H3 w3
    have I3' : Inv Y [(D, { cls := .type "list", data := .seq its.toArray n0 })] τ H3 s3 := I3.pins_of fun p hp => by
      rw [List.mem_singleton.mp hp]
      exact ⟨hoD, hD3, hDC, stD, fun v z => by cases z⟩
    rcases ht with ⟨stop, q⟩ | ⟨go, hz', step⟩
    · refine thn (T.done Y rfl rfl rfl hc i _ s3 τ H3 _ I3' (stat fr3) st3 stop) fun r s4 ⟨hr, I4⟩ => ?_
      subst hr
      obtain ⟨m, hn, _⟩ := I4.loc
      exact hP D C H3 s4 ys its m (by rw [hC]; exact Nat.le_succ _) hD0 hC0 hDC hD3 I4.free hn ⟨n0, (I4.pin (D, _) (List.mem_append_right _ List.mem_cons_self)).1⟩ rv3 hz q I4.base I4.hok I4.bare I4.os
    · refine thn (T.item Y rfl rfl rfl hc i _ s3 τ H3 _ I3' (stat fr3) st3 go) fun r s4 ⟨u, hr, h4⟩ => ?_
      subst hr
      refine thn h4 fun _ s5 ⟨x', H5, I5, r5, y5, st5, fr5⟩ => ?_
      have I5' := I5.pinned (fp := fp) (stat fr5) (T.obj _ _ st5)
      refine thn (pg_name (X := Y) (i := 0) (pos := px) hnd rfl (.inl hx') (.inr hx') _ s5 τ H5 x' u (fun σ' H' => σ' = some x' :: compSt (fs.map (·.2)) σ ∧ H' = H5) I5' r5 ⟨rfl, rfl⟩) fun _ s6 ⟨σ6, H6, I6, e6, e6'⟩ => ?_
      subst e6 e6'
      have back : ∀ {σ' : St} {H' : Hp} {s' : Shared}, Inv Y ([(D, { cls := .type "list", data := .seq its.toArray n0 })] ++ pinsAt fp s5.heap) (some x' :: compSt (fs.map (·.2)) σ) H' s' →
          Inv Y [] τ H' s' ∧ tn (i + 1) s'.heap ∧ (∀ b ∈ fp, H' b = none) ∧ H' D = none ∧ s'.heap.PlainList D its.toArray := fun {σ' H' s'} J' => by
        refine ⟨(J'.pins_of (pins' := []) (fun p hp => absurd hp (by simp))).weak rfl fun j v e => ?_, T.keep _ _ _ st5 fun b hb o e => (J'.pin (b, o) (List.mem_append_right _ (List.mem_append_right _ (mem_pinsAt hb e)))).1, fun b hb => ?_, ?_, n0, ?_⟩
        · cases j with
          | zero => cases e
          | succ j => exact e
        · obtain ⟨o, e, d⟩ := T.obj _ _ st5 b hb
          exact (J'.pin (b, o) (List.mem_append_right _ (List.mem_append_right _ (mem_pinsAt hb e)))).2.1
        · exact (J'.pin (D, _) (List.mem_append_right _ (List.mem_append_left _ List.mem_cons_self))).2.1
        · exact (J'.pin (D, _) (List.mem_append_right _ (List.mem_append_left _ List.mem_cons_self))).1
      refine thn ((hb cl C s2 H2 fp).1 _ s6 _ _ _ I6 (step x' H6 y5)) fun ok s7 ⟨H7, I7, q7⟩ => ?_
      cases ok with
      | false =>
        obtain ⟨m', hm, w7⟩ := q7
        obtain ⟨a1, a2, a3, a4, a5⟩ := back (σ' := τ) I7
        exact ⟨m', hm, i + 1, ys, its, H7, a1, a2, a3, a4, a5, rv3, w7⟩
      | true =>
        refine thn ((hb cl C s2 H2 fp).2 _ s7 _ _ _ I7 q7) fun y s8 ⟨yv, H8, I8, ry, m', hm, w8⟩ => ?_
        obtain ⟨a1, a2, a3, a4, a5⟩ := back (σ' := τ) I8
        have hlen := rv3.length
        refine wpAny_list_append_plain (hsz := by rw [List.size_toArray, ← hlen]; exact hz) a5 fun h' hl' hs' => ?_
        refine ⟨m', hm, i + 1, ys ++ [yv], its ++ [y], H8, a1.turned (t' := s8.toks) (it := D) (fun b o hb e => hs'.extBut b o hb e) a4 hDC (.inr (by show s2.heap.objs.size ≤ D; rw [eD]; exact Nat.le_refl _)) (fun y c e => cellD y c e) (fun p hp => absurd (show p ∈ ([] : List (Addr × Obj)) from hp) (by simp)), T.keep _ _ _ a2 fun b hb o e => hs'.extBut b o (fpD b hb) e, a3, a4, by simpa using hl', rv3.append (.cons ry .nil), w8⟩
  exact codeAny_compStart_list (loop _ rfl) (T.self X.A 0 _ _ _ (T.keep _ _ _ st2 (fun b _ o e => old b o e)) (loop _ rfl))

/-- behind the block: the list is tracked, the block's frame is let go -/
theorem comp_after {pins : List (Addr × Obj)} {σ : St} {H2 H' : Hp} {s2 s' : Shared} {fp : List Addr} {D C : Addr} {ys : List V} {its : List Value} {h' : Heap} {tk : Nat} (I2 : Inv X pins σ H2 s2) (f2 : ∀ b ∈ fp, FpOk X pins H2 b)
    (hD : s2.heap.get? D = none) (hC : s2.heap.get? C = none) (hDC : D ≠ C) (HD : H' D = none) (HC : H' C = none) (pl : s'.heap.PlainList D its.toArray) (rv : Vals ys its) (hz : ys.length ≤ sizeLine)
    (u : Un (frs X.stack) fp H2 H' s2.heap s'.heap) (hok : HOk X.prog X.w H' s'.heap) (hg : AllBare s'.gens) (ho : s'.os = s2.os) (hs : Heap.SameBut C s'.heap h') :
    Inv X pins σ (upd H' D (.lst ys)) { s' with heap := h', toks := tk } := by
  have kC : ∀ b o, b ≠ C → s'.heap.get? b = some o → h'.get? b = some o := fun b o hb e => hs.extBut b o hb e
  have neC : ∀ b o, s2.heap.get? b = some o → b ≠ C := fun b o e z => by rw [z, hC] at e; cases e
  have neD : ∀ b o, s2.heap.get? b = some o → b ≠ D := fun b o e z => by rw [z, hD] at e; cases e
  have trD : ∀ b o, H' b = some o → b ≠ D := fun b o e z => by rw [z, HD] at e; cases e
  refine I2.call' (ch := fp) ho ⟨fun b o e n hb hx => kC b o (neC b o e) (u.keep b o e n hb hx), fun b o e n hb hx => ?_, fun b o e n hx => ?_, fun b o e hx => ?_, fun b xs e => ?_, fun b o w e => ?_, fun b ps e => ?_⟩ (fun b o e => ?_) hg fun b hb => ?_
  · obtain ⟨sl, q⟩ := u.slot b o e n hb hx
    exact ⟨sl, kC b _ (neC b o e) q⟩
  · rw [upd_ne (neD b o e)]; exact u.free b o e n hx
  · obtain ⟨o', q⟩ := u.there b o e hx
    exact ⟨o', kC b _ (neC b o e) q⟩
  · have q := u.tups b xs e
    rw [upd_ne (trD b _ q)]; exact q
  · have q := u.frzs b o w e
    rw [upd_ne (trD b _ q)]; exact q
  · obtain ⟨more, q⟩ := u.tbls b ps e
    exact ⟨more, by rw [upd_ne (trD b _ q)]; exact q⟩
  · by_cases hb : b = D
    · subst hb
      rw [upd_same] at e
      cases e
      obtain ⟨n, q⟩ := pl
      exact ⟨hz, its, n, rv, kC b _ hDC q⟩
    · rw [upd_ne hb] at e
      refine (hok b o e).stay (fun c v hc q => kC c v (fun z => ?_) q) (fun c q => by rw [upd_ne (trD c _ q)]; exact q) fun c xs q => by rw [upd_ne (trD c _ q)]; exact q
      rcases hc with hc | hc
      · rw [hc] at z; rw [z, HC] at e; cases e
      · rw [z, HC] at hc; cases hc
  · obtain ⟨f0, f1, f3, f4, f5, f6⟩ := f2 b hb
    exact ⟨f4, f1, f5, f6⟩

theorem pe_comp {elt iter : Expr} {x : Str} {px pos : Pos} {ifs : List Expr} {scope : Scope} (fs : List (Str × Nat)) {wi : TI} {tt : TT} {te : TE}
    (hc : X.calm = true) (hkind : scope.kind = .function) (hcell : ∀ y ∈ scope.names, y.2 ≠ .cell) (hnames : ∀ y ∈ scope.names, y.2 = .local → scope.names.lookup y.1 = some .local)
    (hfree : ∀ y ∈ scope.names, y.2 = .free → X.env.kindOf y.1 = some .cell ∨ X.env.kindOf y.1 = some .free) (hx : scope.names.lookup x = some .local)
    (hnd : (x :: fs.map (·.1)).Nodup) (hfs : ∀ f ∈ fs, X.N[f.2]? = some f.1 ∧ (X.env.kindOf f.1 = some .cell ∨ X.env.kindOf f.1 = some .free) ∧ scope.names.lookup f.1 = some .free)
    (hi : PI X (.Name x px) iter wi)
    (hb : ∀ (cl : List (Str × Addr)) (C : Addr) (s₀ : Shared) (H₀ : Hp) (ex : List Addr), PTs (cxComp X scope cl C (x :: fs.map (·.1)) s₀ H₀ ex) ifs tt ∧ PE (cxComp X scope cl C (x :: fs.map (·.1)) s₀ H₀ ex) elt te)
    (hs : ∀ x, foldedSetIterable iter X.env x = pure x := by intro _; rfl) :
    PE X (.ListComp elt [⟨.Name x px, iter, ifs, 0⟩] scope pos) (tComp wi (fs.map (·.2)) tt te) := by
  intro pins s σ H Q I h
  obtain ⟨cl, hclos, hcl1, hcl2⟩ := closureFor_ex (env := X.env) (scope := scope) fun y hy hk => I.ok.has y.1 (hfree y hy hk)
  rw [eval_ListComp]
  refine wpAny_comprehension_free (use := none) rfl hs hclos hkind hnames (thn (hi pins s σ H _ I h) fun v s1 h1 => thn h1 fun itv s2 h2 => ?_)
  obtain ⟨it, fp, tn, J, H2, e, I2, T, st2, f2, W, w0, turn⟩ := h2
  subst e
  refine comp_block (pins := pins) hc hkind hcell hx hnd hfs hb hcl1 hcl2 I2 T st2 f2 W (fun H ys => ∀ p, H p = none → Q (.ref p) (upd H p (.lst ys))) w0 turn ?_
  intro D C H' s' ys its m hCs hD hC hDC HD HC hn pl rv hz q u hok hg ho
  exact ⟨m, hn, fun h' hs' => ⟨.ref D, _, comp_after (tk := s'.toks) I2 f2 hD hC hDC HD HC pl rv hz u hok hg ho hs', rfl, q D HD⟩⟩

/-- y = [..] in one line: the list is stored ahead of the letting go -/
def tCompSet (i : Nat) (wi : TI) (fs : List Nat) (tt : TT) (te : TE) : TS := fun D σ H => tComp wi fs tt te σ H fun v H1 => D.nx (σ.set i (some v)) H1
theorem ps_comp {i : Nat} {y : Str} {py spos : Pos} {elt iter : Expr} {x : Str} {px pos : Pos} {ifs : List Expr} {scope : Scope} (fs : List (Str × Nat)) {wi : TI} {tt : TT} {te : TE}
    (hN : X.N.Nodup) (hy : X.N[i]? = some y) (hyl : X.env.scope.names.lookup y = some .local)
    (hc : X.calm = true) (hkind : scope.kind = .function) (hcell : ∀ y ∈ scope.names, y.2 ≠ .cell) (hnames : ∀ y ∈ scope.names, y.2 = .local → scope.names.lookup y.1 = some .local)
    (hfree : ∀ y ∈ scope.names, y.2 = .free → X.env.kindOf y.1 = some .cell ∨ X.env.kindOf y.1 = some .free) (hx : scope.names.lookup x = some .local)
    (hnd : (x :: fs.map (·.1)).Nodup) (hfs : ∀ f ∈ fs, X.N[f.2]? = some f.1 ∧ (X.env.kindOf f.1 = some .cell ∨ X.env.kindOf f.1 = some .free) ∧ scope.names.lookup f.1 = some .free)
    (hi : PI X (.Name x px) iter wi)
    (hb : ∀ (cl : List (Str × Addr)) (C : Addr) (s₀ : Shared) (H₀ : Hp) (ex : List Addr), PTs (cxComp X scope cl C (x :: fs.map (·.1)) s₀ H₀ ex) ifs tt ∧ PE (cxComp X scope cl C (x :: fs.map (·.1)) s₀ H₀ ex) elt te)
    (hsw : swapsWith (.ListComp elt [⟨.Name x px, iter, ifs, 0⟩] scope pos) (some (.Name y py)) spos.line X.env = pure true)
    (hs : ∀ x, foldedSetIterable iter X.env x = pure x := by intro _; rfl) :
    PS X (.Assign [.Name y py] (.ListComp elt [⟨.Name x px, iter, ifs, 0⟩] scope pos) spos) (tCompSet i wi (fs.map (·.2)) tt te) := by
  intro pins s σ H D' I h
  obtain ⟨cl, hclos, hcl1, hcl2⟩ := closureFor_ex (env := X.env) (scope := scope) fun y hy hk => I.ok.has y.1 (hfree y hy hk)
  rw [exec_Assign_Name_used _ _ _ _ hsw]
  refine wpAny_bind (wpAny_standAt (wpAny_bind ?_))
  show wpAny _ X.A (do let _ ← comprehension (.ListComp elt [⟨.Name x px, iter, ifs, 0⟩] scope pos) scope X.env _ (newList []) false (eval iter X.env) (some (assign (.Name y py) X.env))) _ _ s
  refine wpAny_bind (wpAny_mono (wpAny_comprehension_free (use := some (assign (.Name y py) X.env)) (Q := fun _ s' => SP X pins D' .next s') rfl hs hclos hkind hnames
    (thn (hi pins s σ H _ I h) fun v s1 h1 => thn h1 fun itv s2 h2 => ?_)) (fun _ s' hq => wpAny_pure (wpAny_pure hq)) fun _ _ e => e)
  obtain ⟨it, fp, tn, J, H2, e, I2, T, st2, f2, W, w0, turn⟩ := h2
  subst e
  refine comp_block (pins := pins) hc hkind hcell hx hnd hfs hb hcl1 hcl2 I2 T st2 f2 W (fun H ys => ∀ p, H p = none → D'.nx (σ.set i (some (.ref p))) (upd H p (.lst ys))) w0 turn ?_
  intro D C H' s' ys its m hCs hD hC hDC HD HC hn pl rv hz q u hok hg ho
  show wpAny _ X.A (assign (.Name y py) X.env (.ref D)) _ _ _
  -- store, with the block's frame still there
  have J := comp_after (tk := s'.toks) I2 f2 hD hC hDC HD HC pl rv hz u hok hg ho (Heap.SameBut.refl C s'.heap)
  refine wpAny_assign_Name (store_ok2 J hN hy (.inl hyl) (v := .ref D) (u := .ref D) rfl (fun s3 J3 ⟨a, sb, ha⟩ => ?_) (.inr hyl))
  have exL : ∃ o, s2.heap.get? X.env.locals = some o := let ⟨_, ⟨o, _, _, e, _⟩, _⟩ := I2.loc; ⟨o, e⟩
  have cellC : ∀ z c, X.env.cells.lookup z = some c → c ≠ C := fun z c e q => by
    obtain ⟨v, oc, ho, _⟩ := I2.cell z c e
    rw [q, hC] at ho; cases ho
  have aC : a ≠ C := by
    rcases ha with z | z
    · obtain ⟨o, e⟩ := exL
      intro q
      rw [← z, q, hC] at e; cases e
    · exact cellC y a z
  have LC : C ≠ X.env.locals := fun q => by
    obtain ⟨o, e⟩ := exL
    rw [← q, hC] at e; cases e
  refine ⟨m, hn.sameBut sb (Ne.symm aC), fun h' hs' => ?_⟩
  exact ⟨_, _, J3.turned (t' := s3.toks) (it := C) (fun b o hb e => hs'.extBut b o hb e) (by rw [upd_ne (Ne.symm hDC)]; exact HC) LC (.inr (Nat.le_trans I2.sz hCs)) cellC (fun p hp z => by
    have := (I2.pin p hp).1
    rw [z, hC] at this; cases this), q D HD⟩
end
end L2

set_option Elab.async false
set_option linter.all false
set_option maxRecDepth 100000
namespace L2
open PySem PySem.Spec PyProof.Rows PySem.Builtin.Str

/-! ### texts as lists of codes -/
def txt (l : List Nat) : Str := ⟨l.toArray⟩
theorem codes_txt (l : List Nat) : (txt l).cps.toList = l := by simp [txt]
theorem txt_len (l : List Nat) : (txt l).length = l.length := by simp [txt, Str.length]
theorem txt_inj {a b : List Nat} : txt a = txt b ↔ a = b := ⟨fun h => by simpa [txt] using h, fun h => by rw [h]⟩
theorem txt_app (a b : List Nat) : txt a ++ txt b = txt (a ++ b) := by
  show Str.mk (a.toArray ++ b.toArray) = _
  simp [txt]
/-- a[lo:hi] -/
def cutL (xs : List Nat) (lo hi : Option Int) : List Nat := (xs.drop (HT.sIx xs.length 0 lo)).take (HT.sIx xs.length xs.length hi - HT.sIx xs.length 0 lo)
theorem clip_str (v : Option Int) (n d : Nat) : (match v with | none => ((d : Nat) : Int) | some i => (if (1 : Int) > 0 then max 0 (min (if i < 0 then i + (n : Int) else i) (n : Int)) else max (-1) (min (if i < 0 then i + (n : Int) else i) ((n : Int) - 1)))) = ((HT.sIx n d v : Nat) : Int) := by
  cases v with
  | none => rfl
  | some i =>
    show (if (1 : Int) > 0 then max 0 (min (if i < 0 then i + (n : Int) else i) (n : Int)) else _) = (((if i < 0 then (i + (n : Int)).toNat else min i.toNat n) : Nat) : Int)
    rw [if_pos (by decide)]
    by_cases h : i < 0
    · rw [if_pos h, if_pos h]; omega
    · rw [if_neg h, if_neg h]; omega
theorem sIx_le (n d : Nat) (v : Option Int) (h : d ≤ n) : HT.sIx n d v ≤ n := by
  cases v with
  | none => exact h
  | some i =>
    show (if i < 0 then (i + (n : Int)).toNat else min i.toNat n) ≤ n
    split <;> omega
theorem slice_txt (l : List Nat) (lo hi : Option Int) : Txt.slice (txt l) lo hi = txt (cutL l lo hi) := by
  have e : strSliceIndices lo hi 1 (txt l).length = (List.range (HT.sIx l.length l.length hi - HT.sIx l.length 0 lo)).map (HT.sIx l.length 0 lo + ·) := by
    rw [txt_len]
    unfold strSliceIndices
    simp only [if_pos (show (1 : Int) > 0 by decide)]
    have e1 := clip_str lo l.length 0
    have e2 := clip_str hi l.length l.length
    simp only [if_pos (show (1 : Int) > 0 by decide)] at e1 e2
    have e1' : ((0 : Nat) : Int) = 0 := rfl
    rw [e1'] at e1
    have key : ∀ a b a' b' : Int, a = a' → b = b' → sliceRange a b 1 = sliceRange a' b' 1 := fun a b a' b' h1 h2 => by rw [h1, h2]
    exact Eq.trans (key _ _ _ _ e1 e2) (sliceRange_one _ _)
  unfold Txt.slice
  rw [e]
  have e3 : (((List.range (HT.sIx l.length l.length hi - HT.sIx l.length 0 lo)).map (HT.sIx l.length 0 lo + ·)).filterMap ((txt l).cps[·]?)) = cutL l lo hi := by
    rw [pick_run, codes_txt]; rfl
  rw [e3]
  split
  · rename_i hc
    have hc' : HT.sIx l.length l.length hi - HT.sIx l.length 0 lo = l.length := by
      rw [txt_len] at hc
      simpa using hc
    have h1 := sIx_le l.length l.length hi (Nat.le_refl _)
    have h0 : HT.sIx l.length 0 lo = 0 ∨ l.length = 0 := by omega
    unfold cutL
    rw [hc']
    rcases h0 with h0 | h0
    · rw [h0]; simp
    · have : l = [] := List.length_eq_zero_iff.mp h0
      subst this; simp
  · rfl

section
variable {X : Cx}
def rSlS : V → Option Int → Option Int → Hp → VK → Prop := fun x lo hi H Q => ∃ l, x = .str (txt l) ∧ l.length ≤ sizeLine ∧ Q (.str (txt (cutL l lo hi))) H
theorem isSlice_of {h : Heap} {sl : Addr} {vl vu : Value} {lo hi : Option Int} (hs : h.IsSliceOf sl vl vu .none) (pl : IsPart vl lo) (pu : IsPart vu hi) :
    ∃ (l u : Option (Int × Tok)), h.IsSlice sl l u none ∧ l.map (·.1) = lo ∧ u.map (·.1) = hi := by
  obtain ⟨o, ho, hc, hd⟩ := hs
  cases pl with
  | none =>
    cases pu with
    | none => exact ⟨none, none, ⟨o, ho, hc, hd⟩, rfl, rfl⟩
    | int j u => exact ⟨none, some (j, u), ⟨o, ho, hc, hd⟩, rfl, rfl⟩
  | int i t =>
    cases pu with
    | none => exact ⟨some (i, t), none, ⟨o, ho, hc, hd⟩, rfl, rfl⟩
    | int j u => exact ⟨some (i, t), some (j, u), ⟨o, ho, hc, hd⟩, rfl, rfl⟩
theorem sl_str : SlR X rSlS := by
  intro pins s σ H x v vl vu lo hi sl Q I rx hs pl pu h
  obtain ⟨l, rfl, hz, q⟩ := h
  obtain ⟨t, rfl⟩ := rx
  obtain ⟨l', u', hS, rfl, rfl⟩ := isSlice_of hs pl pu
  refine ⟨"str", _, F.slot_str_getitem.lookup, typeIs_str _ _ _, wpAny_getItem_str_slice hS rfl ?_⟩
  have key : ∀ t' k, EP X pins σ Q (.str (Txt.slice (txt l) (l'.map (·.1)) (u'.map (·.1))) t') { s with toks := k } := fun t' k => ⟨.str (txt (cutL l _ _)), H, I.tok _, ⟨t', by rw [slice_txt]⟩, q⟩
  have e : sliceMade (txt l) t l' u' none = (if ((1 : Int) == 1 && (strSliceIndices (l'.map (·.1)) (u'.map (·.1)) 1 (txt l).length).length == (txt l).length) = true then Made.val (.str (txt l) t) else Made.str ⟨((strSliceIndices (l'.map (·.1)) (u'.map (·.1)) 1 (txt l).length).filterMap ((txt l).cps[·]?)).toArray⟩) := rfl
  rw [e]
  exact post_val_or_str ⟨Nat.le_trans (Txt.slice_le _ _ _) (by rw [txt_len]; exact hz), key⟩

/-! ### methods of a text -/
/-- the codes at the end that go -/
def rstripL (p : Nat → Bool) (l : List Nat) : List Nat := (l.reverse.dropWhile p).reverse
theorem rstrip_eq (p : Nat → Bool) (l : List Nat) : Txt.stripBy p false true (txt l) = txt (rstripL p l) := by
  have hlen : (l.reverse.takeWhile p).length + (l.reverse.dropWhile p).length = l.length := by
    have := congrArg List.length (List.takeWhile_append_dropWhile (p := p) (l := l.reverse))
    rw [List.length_append, List.length_reverse] at this
    exact this
  have hpre : l.take (l.length - (l.reverse.takeWhile p).length) = rstripL p l := by
    have e : l = rstripL p l ++ (l.reverse.takeWhile p).reverse := by
      have := congrArg List.reverse (List.takeWhile_append_dropWhile (p := p) (l := l.reverse))
      rw [List.reverse_append, List.reverse_reverse] at this
      exact this.symm
    have hl : (rstripL p l).length = l.length - (l.reverse.takeWhile p).length := by unfold rstripL; rw [List.length_reverse]; omega
    have h := List.take_left (l₁ := rstripL p l) (l₂ := (l.reverse.takeWhile p).reverse)
    rw [← e, hl] at h
    exact h
  unfold Txt.stripBy stripSame stripped stripLo stripHi
  simp only [Bool.false_eq_true, if_false, if_true, codes_txt, List.drop_zero, txt_len]
  have e2 : strSub (txt l) 0 (l.length - (l.reverse.takeWhile p).length) = txt (rstripL p l) := by
    rw [← hpre]
    simp [strSub, txt, List.extract_eq_take_drop]
  split
  · rename_i hc
    have hc' : l.length - (l.reverse.takeWhile p).length = l.length := by simpa using hc
    rw [← hpre, hc', List.take_length]
  · exact e2
def rRstrip : V → List V → Hp → VK → Prop := fun x vs H Q => ∃ l m, x = .str (txt l) ∧ vs = [.str (txt m)] ∧ l.length ≤ sizeLine ∧ Q (.str (txt (rstripL (fun c => m.contains c) l))) H
theorem mt_rstrip : MtR X "str.rstrip" rRstrip := by
  intro pins s σ H x vs v us Q I rx rv h
  obtain ⟨l, m, rfl, rfl, hz, q⟩ := h
  obtain ⟨t, rfl⟩ := rx
  obtain ⟨u, rfl, t', rfl⟩ := rv.one
  refine call_gives F.slot_str_rstrip (typeIs_str _ _ _) F.entry_str_rstrip (F.args_str_rstrip_2 _ _) (gives_str_rstrip_chars _ _ t t') ?_
  refine post_val_or_made (fun _ => fits_stripped _ _ _ (by rw [txt_len]; exact hz)) fun t' k => ⟨.str (txt (rstripL (fun c => m.contains c) l)), H, I.tok _, ⟨t', ?_⟩, q⟩
  have e : (txt m).cps.contains = fun c => m.contains c := by funext c; simp [txt]
  show Value.str (Txt.stripBy (txt m).cps.contains false true (txt l)) t' = _
  rw [e, rstrip_eq]
/-- where the one sign c stands first -/
theorem occ_one {l : List Nat} {c : Nat} (h : c ∈ l) : ∃ rest, occurrences (txt l) (txt [c]) 0 (txt l).length 1 = l.idxOf c :: rest := by
  have hf := PyProof.Rows.find_whole (txt l) (txt [c])
  have hlt := List.idxOf_lt_length_iff.mpr h
  have at_ : ∀ i, StrLaws.At (txt l) (txt [c]) (txt l).length i ↔ l[i]? = some c := fun i => by
    unfold StrLaws.At subAt
    rw [txt_len, txt_len]
    simp only [txt, List.extract_toArray, List.extract_eq_take_drop, List.length_cons, List.length_nil]
    rw [List.getElem?_eq_some_iff]
    constructor
    · rintro ⟨h1, h2⟩
      have h3 : i < l.length := by omega
      refine ⟨h3, ?_⟩
      have h4 : (l.drop i).take 1 = [c] := by simpa using h2
      rw [List.drop_eq_getElem_cons h3] at h4
      have h5 : [l[i]] = [c] := h4
      injection h5
    · rintro ⟨h1, h2⟩
      refine ⟨by omega, ?_⟩
      have h4 : (l.drop i).take (i + (0 + 1) - i) = [c] := by
        rw [List.drop_eq_getElem_cons h1, h2]
        have : i + (0 + 1) - i = 1 := by omega
        rw [this]; rfl
      rw [h4]; simp
  have hi : l[l.idxOf c]? = some c := by rw [List.getElem?_eq_getElem hlt]; congr 1; exact List.getElem_idxOf hlt
  rcases hf with ⟨_, hn⟩ | ⟨i, e, ha, hb⟩
  · exact absurd ((at_ _).mpr hi) (hn _)
  · have hi2 := (at_ i).mp ha
    have ei : i = l.idxOf c := by
      have h1 : ¬ l.idxOf c < i := fun z => hb _ z ((at_ _).mpr hi)
      have h2 : l.idxOf c ≤ i := by
        obtain ⟨h3, h4⟩ := List.getElem?_eq_some_iff.mp hi2
        have := List.idxOf_lt_length_iff.mpr h
        rcases Nat.lt_or_ge i (l.idxOf c) with z | z
        · exfalso
          have := List.not_of_lt_findIdx (p := (· == c)) (xs := l) (i := i) (by simpa [List.idxOf] using z)
          simp [h4] at this
        · exact z
      omega
    unfold Txt.find at e
    cases ho : occurrences (txt l) (txt [c]) 0 (txt l).length 1 with
    | nil => rw [ho] at e; simp only at e; omega
    | cons a r =>
      rw [ho] at e
      have ea : (a : Int) = (i : Int) := e
      have ea' : a = i := by omega
      exact ⟨r, by rw [ea', ei]⟩
def rIndex : V → List V → Hp → VK → Prop := fun x vs H Q => ∃ l c, x = .str (txt l) ∧ vs = [.str (txt [c])] ∧ c ∈ l ∧ Q (.int (l.idxOf c : Nat)) H
theorem mt_index : MtR X "str.index" rIndex := by
  intro pins s σ H x vs v us Q I rx rv h
  obtain ⟨l, c, rfl, rfl, hm, q⟩ := h
  obtain ⟨t, rfl⟩ := rx
  obtain ⟨u, rfl, t', rfl⟩ := rv.one
  obtain ⟨rest, ho⟩ := occ_one hm
  exact call_gives F.slot_str_index (typeIs_str _ _ _) F.entry_str_index (F.args_str_index_2 _ _) (gives_str_index _ _ t t' _ rest ho) ⟨.int _, H, I.tok _, ⟨_, rfl⟩, q⟩
/-- comparisons of texts -/
theorem op_ltS : OpR X (compareOp .Lt) (fun x y H Q => ∃ i j, x = .str (txt i) ∧ y = .str (txt j) ∧ Q (.bl (decide (i < j))) H) := by
  intro pins s σ H x y v u Q I rx ry h
  obtain ⟨i, j, rfl, rfl, q⟩ := h
  obtain ⟨t, rfl⟩ := rx
  obtain ⟨t', rfl⟩ := ry
  exact lt_str (fin_bl I q (by rw [codes_txt, codes_txt]))
theorem op_geS : OpR X (compareOp .GtE) (fun x y H Q => ∃ i j, x = .str (txt i) ∧ y = .str (txt j) ∧ Q (.bl (!decide (i < j))) H) := by
  intro pins s σ H x y v u Q I rx ry h
  obtain ⟨i, j, rfl, rfl, q⟩ := h
  obtain ⟨t, rfl⟩ := rx
  obtain ⟨t', rfl⟩ := ry
  exact PySem.P.ge_str (fin_bl I q (by rw [codes_txt, codes_txt]))
theorem op_addS : OpR X (binaryOp .Add) (fun x y H Q => ∃ i j, x = .str (txt i) ∧ y = .str (txt j) ∧ i.length + j.length ≤ sizeLine ∧ Q (.str (txt (i ++ j))) H) := by
  intro pins s σ H x y v u Q I rx ry h
  obtain ⟨i, j, rfl, rfl, hz, q⟩ := h
  exact op_add_str pins s σ H _ _ v u Q I rx ry ⟨_, _, rfl, rfl, by rw [txt_len, txt_len]; exact hz, by rw [txt_app]; exact q⟩
theorem ix_strL : IxR X (fun x y H Q => ∃ (l : List Nat) (i : Nat) (c : Nat), x = .str (txt l) ∧ y = .int i ∧ l.length ≤ sizeLine ∧ l[i]? = some c ∧ Q (.str (txt [c])) H) := by
  intro pins s σ H value slice x y v u Q I rx ry h hs
  obtain ⟨l, i, c, rfl, rfl, hz, e, q⟩ := h
  exact ix_str pins s σ H value slice _ _ v u Q I rx ry ⟨_, _, c, rfl, rfl, by rw [txt_len]; exact hz, by rw [codes_txt]; exact atI_nat e, q⟩ hs
theorem call_lenS : CallR X (.builtin "len") (fun xs H Q => ∃ z, xs = [.str (txt z)] ∧ z.length ≤ sizeLine ∧ Q (.int z.length) H) := by
  intro pins s σ H xs us Q I r h
  obtain ⟨z, rfl, hz, q⟩ := h
  exact call_len_str pins s σ H _ us Q I r ⟨_, rfl, by rw [txt_len]; exact hz, by rw [txt_len]; exact q⟩
end
end L2

set_option Elab.async false
set_option linter.all false
set_option maxRecDepth 100000
namespace L2
open PySem PySem.Spec PyProof.Rows PySem.Builtin.Str

/-! ### join -/
def joinL (sep : List Nat) : List (List Nat) → List Nat
  | [] => []
  | y :: r => r.foldl (fun acc p => acc ++ sep ++ p) y
theorem foldl_cps (sep : List Nat) : ∀ (r : List (List Nat)) (y : List Nat), ((r.map txt).foldl (fun acc p => acc ++ (txt sep).cps ++ p.cps) y.toArray) = (r.foldl (fun acc p => acc ++ sep ++ p) y).toArray
  | [], y => rfl
  | a :: r, y => by
    rw [List.map_cons, List.foldl_cons, List.foldl_cons, ← foldl_cps sep r (y ++ sep ++ a)]
    congr 1
    simp [txt]
theorem join_txt (sep : List Nat) (ys : List (List Nat)) : Txt.join (txt sep) (ys.map txt) = txt (joinL sep ys) := by
  cases ys with
  | nil => rfl
  | cons y r =>
    show (⟨_⟩ : Str) = _
    have := foldl_cps sep r y
    show (⟨(((y :: r).map txt).drop 1).foldl (fun acc p => acc ++ (txt sep).cps ++ p.cps) (((y :: r).map txt).headD Str.empty).cps⟩ : Str) = _
    simp only [List.map_cons, List.drop_one, List.tail_cons, List.headD_cons]
    have e : (txt y).cps = y.toArray := rfl
    rw [e, this]; rfl
theorem foldl_nilsep : ∀ (r : List (List Nat)) (y : List Nat), r.foldl (fun acc p => acc ++ [] ++ p) y = y ++ r.flatten
  | [], y => by simp
  | a :: r, y => by rw [List.foldl_cons, foldl_nilsep r]; simp
theorem joinL_nil (ys : List (List Nat)) : joinL [] ys = ys.flatten := by
  cases ys with
  | nil => rfl
  | cons y r => show r.foldl (fun acc p => acc ++ [] ++ p) y = _; rw [foldl_nilsep]; rfl
theorem strsAre_of : ∀ {ys : List Str} {us : List Value}, Vals (ys.map V.str) us → StrsAre us ys
  | [], _, .nil => .nil
  | y :: ys, _, .cons ⟨t, e⟩ r => by subst e; exact .cons y t (strsAre_of r)
def strV (l : List Nat) : V := .str (txt l)
theorem map_strV (ys : List (List Nat)) : ys.map strV = (ys.map txt).map V.str := by rw [List.map_map]; rfl
section
variable {X : Cx}
def rJoin (K : PySem.W.Frag) : V → List V → Hp → VK → Prop := fun x vs H Q => ∃ sep p ys, x = .str (txt sep) ∧ vs = [.ref p] ∧ SqL K H p (ys.map strV) ∧ (ys.map (·.length)).sum + ys.length * sep.length ≤ 16777216 ∧ Q (.str (txt (joinL sep ys))) H
theorem mt_join : MtR X "str.join" (rJoin X.K) := by
  intro pins s σ H x vs v us Q I rx rv h
  obtain ⟨sep, p, ys, rfl, rfl, hx, hz, q⟩ := h
  obtain ⟨t, rfl⟩ := rx
  obtain ⟨u, rfl, ru⟩ := rv.one
  cases ru
  obtain ⟨its, r, pl, hl⟩ := I.list hx
  rw [map_strV] at r
  refine join_list pl.isList (ys := ys.map txt) (by simpa using strsAre_of r) ?_ fun t' k => ⟨.str (txt (joinL sep ys)), H, I.tok _, ⟨t', by rw [join_txt]⟩, q⟩
  rw [List.map_map, List.length_map, txt_len]
  have : ((fun x => x.length) ∘ txt : List Nat → Nat) = fun l => l.length := by funext l; exact txt_len l
  rw [this]; exact hz

/-! ### the signs of a text -/
/-- the signs of a text, one by one -/
def Its (l : List Nat) : It := ⟨fun i _ => i < l.length, fun i H x H' => H' = H ∧ ∃ c, l[i]? = some c ∧ x = .str (txt [c]), fun i _ => l.length ≤ i⟩
theorem strTy (x : Str) : strIterType x = "str_ascii_iterator" ∨ strIterType x = "str_iterator" := by
  unfold strIterType
  split
  · exact .inl rfl
  · exact .inr rfl
theorem walks_str {prog : Program} {w : World} {A : Around} (hh : A.handled = none) (I : Addr) (x : Str) (t : Tok) : Walks prog w A I [I] [I] x.cps.size (SignAt x) (fun i h => h.IsStrIter I (strIterType x) x t i) := by
  rcases strTy x with e | e
  · rw [e]; exact Walks.strAscii hh I x t
  · rw [e]; exact Walks.strWide hh I x t
theorem turn_str {P : Program} {w : World} {K : PySem.W.Frag} {tg : Expr} (it : Addr) (l : List Nat) (t : Tok) : Turn P w K tg (Its l) [it] it (fun i h => h.IsStrIter it (strIterType (txt l)) (txt l) t i) where
  mem := by simp
  obj := fun i h st b hb => by
    have e : b = it := by simpa using hb
    subst e
    obtain ⟨o, e, c, d⟩ := st
    exact ⟨o, e, fun v z => by rw [d] at z; cases z⟩
  keep := fun i h h' st k => let ⟨o, ho, r⟩ := st; ⟨o, k it (by simp) o ho, r⟩
  item := by
    intro X hP hw hK hc i pins s σ H E I hf st hg
    subst hP hw hK
    obtain ⟨f0, f1, f2, f3, f4, f5⟩ := hf it (by simp)
    have W := walks_str (prog := X.prog) (w := X.w) (I.ok.hd hc) it (txt l) t
    have hg' : i < (txt l).cps.size := by have : i < l.length := hg; simpa [txt] using this
    refine W.item i s _ _ hg' st fun v h' tk hv st' kk => ?_
    obtain ⟨c, u, hc', rfl⟩ := hv
    have I1 : Inv X pins σ H { s with heap := h', toks := tk } := I.turned (fun b o hb e => kk b o (by simpa using hb) e) f0 f1 f3 f4 f5
    obtain ⟨o, e, cc, d⟩ := id st'
    have hn : ["enumerate", "zip", "dict_itemiterator", "dict_reverseitemiterator", "odict_iterator", "itertools.zip_longest", "itertools.pairwise"].contains (strIterType (txt l)) = false := by
      rcases strTy (txt l) with e | e <;> (rw [e]; decide)
    exact ⟨_, rfl, go_of (s := { s with heap := h', toks := tk }) e cc d hn ⟨.str (txt [c]), H, I1, ⟨u, rfl⟩, ⟨rfl, c, by simpa [txt] using hc', rfl⟩, st', fun b hb => (hf b hb).1⟩⟩
  done := by
    intro X hP hw hK hc i pins s σ H E I hf st hg
    subst hP hw hK
    obtain ⟨f0, f1, f2, f3, f4, f5⟩ := hf it (by simp)
    have hg' : l.length ≤ i := hg
    obtain ⟨o, e, cc, d⟩ := id st
    have fin : ∀ h', Heap.ExtBut it s.heap h' → (none : Option Value) = none ∧ Inv X pins σ H { s with heap := h' } := fun h' eb => ⟨rfl, I.turned (t' := s.toks) (fun b o hb e => eb b o hb e) f0 f1 f3 f4 f5⟩
    have hx : (txt l).cps[i]? = none := by simpa [txt] using hg'
    rcases strTy (txt l) with e | e
    · rw [e] at st
      exact wpAny_pyNext_ascii_end (I.ok.hd hc) st hx fin
    · rw [e] at st
      exact wpAny_pyNext_wide_end (I.ok.hd hc) st hx fin
  self := fun _ _ _ _ _ st h => by
    rcases strTy (txt l) with e | e
    · rw [e] at st; exact wpAny_pyIter_striter_ascii st h
    · rw [e] at st; exact wpAny_pyIter_striter_wide st h
def iStr (tl : TE) : TI := fun σ H R => tl σ H fun x H1 => ∃ l, x = .str (txt l) ∧ R (Its l) H1
theorem pi_str {tg l : Expr} {tl : TE} (hl : PE X l tl) : PI X tg l (iStr tl) := by
  intro pins s σ H R I h
  refine thn (hl pins s σ H _ I h) fun v s1 ⟨x, H1, I1, r1, q1⟩ => ?_
  obtain ⟨l', e, q⟩ := q1
  subst e
  obtain ⟨t, rfl⟩ := r1
  refine wpAny_pyIter_strU ?_
  refine ⟨s1.heap.objs.size, [s1.heap.objs.size], _, _, H1, rfl, I1.kept (t' := s1.toks) fun b o e => Heap.get?_push_of_some _ e, turn_str _ l' t, ⟨_, Heap.get?_push_size _ rfl, rfl, rfl⟩, fun b hb => ?_, q⟩
  have e : b = s1.heap.objs.size := by simpa using hb
  subst e
  exact I1.fpOk (Nat.le_refl _) (I1.hok.fresh (Nat.le_refl _))

/-! ### list(text), sorted, ==, all -/
/-- == of two lists of texts -/
theorem reads_strs {h : Heap} : ∀ {us : List Value} {ys : List Str}, StrsAre us ys → ReadsAll h us (ys.map PyData.str) []
  | _, _, .nil => .nil
  | _, _, .cons y t r => .cons (as := []) (bs := []) (.str y t) (reads_strs r)
theorem canLay_strs : ∀ ys : List Str, (∀ y ∈ ys, PyData.strOk y = true) → PyData.canLayAll0 (ys.map PyData.str) = true
  | [], _ => rfl
  | y :: r, h => by simp [PyData.canLayAll0, PyData.canLay0, h y List.mem_cons_self, canLay_strs r fun z hz => h z (List.mem_cons_of_mem _ hz)]
theorem depth_strs : ∀ ys : List Str, PyData.depthAll (ys.map PyData.str) = 0
  | [] => rfl
  | _ :: r => by simp [PyData.depthAll, PyData.depth, depth_strs r]
theorem shaped_strs (ys : List Str) (h : ∀ y ∈ ys, PyData.strOk y = true) : SeqAt.shaped (.list (ys.map PyData.str)) = true := by
  simp [SeqAt.shaped, PyData.canLay0, PyData.depth, canLay_strs ys h, depth_strs]
theorem eqv_strs : ∀ xs ys : List Str, PyData.eqvAll (xs.map PyData.str) (ys.map PyData.str) = decide (xs = ys)
  | [], [] => by simp [PyData.eqvAll]
  | [], _ :: _ => by simp [PyData.eqvAll]
  | _ :: _, [] => by simp [PyData.eqvAll]
  | a :: r, b :: t => by
    simp only [List.map_cons, PyData.eqvAll, PyData.eqv, eqv_strs r t]
    by_cases h : a = b <;> by_cases h' : r = t <;> simp [h, h']
theorem txts_inj {a b : List (List Nat)} : a.map txt = b.map txt ↔ a = b := ⟨fun h => by
    have := congrArg (List.map fun x : Str => x.cps.toList) h
    rw [List.map_map, List.map_map] at this
    have e2 : ((fun x : Str => x.cps.toList) ∘ txt) = id := by funext l; exact codes_txt l
    rwa [e2, List.map_id, List.map_id] at this, fun h => by rw [h]⟩
theorem op_neLS (hu : X.A.units + 64 < cLine) : OpR X (compareOp .NotEq) (fun x y H Q => ∃ a b, ∃ xs ys : List (List Nat), x = .ref a ∧ y = .ref b ∧ SqL X.K H a (xs.map strV) ∧ SqL X.K H b (ys.map strV) ∧ (∀ y ∈ xs, PyData.strOk (txt y) = true) ∧ (∀ y ∈ ys, PyData.strOk (txt y) = true) ∧ Q (.bl (!decide (xs = ys))) H) := by
  intro pins s σ H x y v u Q I rx ry h
  obtain ⟨a, b, xs, ys, rfl, rfl, ha, hb, ox, oy, q⟩ := h
  cases rx
  cases ry
  obtain ⟨ia, ra, pa, _⟩ := I.list ha
  obtain ⟨ib, rb, pb, _⟩ := I.list hb
  obtain ⟨oa, na, ea, ca, _, da⟩ := pa
  obtain ⟨ob, nb, eb, cb, _, db⟩ := pb
  rw [map_strV] at ra rb
  refine ne_dataH (Reads.list ea ca da (reads_strs (by simpa using strsAre_of ra))) (Reads.list eb cb db (reads_strs (by simpa using strsAre_of rb))) (shaped_strs (xs.map txt) (by simpa using ox)) (shaped_strs (ys.map txt) (by simpa using oy)) hu (fin_bl I q ?_)
  simp only [PyData.eqv, eqv_strs]
  congr 1
  exact decide_eq_decide.mpr txts_inj.symm
end
end L2

set_option Elab.async false
set_option linter.all false
set_option maxRecDepth 100000
namespace L2
open PySem PySem.Spec PyProof.Rows PySem.Builtin.Str
section
variable {X : Cx}
/-- what the looks at a comprehension's scope say -/
structure CompOk (X : Cx) (scope : Scope) (x : Str) (fs : List (Str × Nat)) : Prop where
  kind : scope.kind = .function
  cell : ∀ y ∈ scope.names, y.2 ≠ .cell
  names : ∀ y ∈ scope.names, y.2 = .local → scope.names.lookup y.1 = some .local
  free : ∀ y ∈ scope.names, y.2 = .free → X.env.kindOf y.1 = some .cell ∨ X.env.kindOf y.1 = some .free
  hx : scope.names.lookup x = some .local
  nd : (x :: fs.map (·.1)).Nodup
  fs : ∀ f ∈ fs, X.N[f.2]? = some f.1 ∧ (X.env.kindOf f.1 = some .cell ∨ X.env.kindOf f.1 = some .free) ∧ scope.names.lookup f.1 = some .free
def compLook (names : List (Str × NameKind)) (outer : List (Str × NameKind)) (N : List Str) (x : Str) (fs : List (Str × Nat)) : Bool :=
  (names.all fun y => y.2 != .cell) && (names.all fun y => y.2 != .local || names.lookup y.1 == some .local) &&
  (names.all fun y => y.2 != .free || outer.lookup y.1 == some .cell || outer.lookup y.1 == some .free) && (names.lookup x == some .local) &&
  decide ((x :: fs.map (·.1)).Nodup) && (fs.all fun f => decide (N[f.2]? = some f.1) && (outer.lookup f.1 == some .cell || outer.lookup f.1 == some .free) && names.lookup f.1 == some .free)
theorem compOk_of {scope : Scope} {x : Str} {fs : List (Str × Nat)} (hk : scope.kind = .function) (h : compLook scope.names X.env.scope.names X.N x fs = true) : CompOk X scope x fs := by
  unfold compLook at h
  simp only [Bool.and_eq_true, List.all_eq_true, decide_eq_true_eq, Bool.or_eq_true, bne_iff_ne, beq_iff_eq] at h
  obtain ⟨⟨⟨⟨⟨h1, h2⟩, h3⟩, h4⟩, h5⟩, h6⟩ := h
  refine ⟨hk, fun y hy => h1 y hy, fun y hy e => ?_, fun y hy e => ?_, h4, h5, fun f hf => ?_⟩
  · rcases h2 y hy with z | z
    · exact absurd e z
    · exact z
  · rcases h3 y hy with (z | z) | z
    · exact absurd e z
    · exact .inl z
    · exact .inr z
  · obtain ⟨⟨a, b⟩, c⟩ := h6 f hf
    exact ⟨a, b, c⟩
theorem pe_compB {elt iter : Expr} {x : Str} {px pos : Pos} {ifs : List Expr} {scope : Scope} (fs : List (Str × Nat)) {wi : TI} {tt : TT} {te : TE} (hc : X.calm = true)
    (hi : PI X (.Name x px) iter wi)
    (hb : ∀ (cl : List (Str × Addr)) (C : Addr) (s₀ : Shared) (H₀ : Hp) (ex : List Addr), PTs (cxComp X scope cl C (x :: fs.map (·.1)) s₀ H₀ ex) ifs tt ∧ PE (cxComp X scope cl C (x :: fs.map (·.1)) s₀ H₀ ex) elt te)
    (hk : scope.kind = .function := by rfl) (hl : compLook scope.names X.env.scope.names X.N x fs = true := by kernel_rfl)
    (hs : ∀ x, foldedSetIterable iter X.env x = pure x := by intro _; rfl) :
    PE X (.ListComp elt [⟨.Name x px, iter, ifs, 0⟩] scope pos) (tComp wi (fs.map (·.2)) tt te) :=
  let O := compOk_of (X := X) hk hl
  pe_comp fs hc O.kind O.cell O.names O.free O.hx O.nd O.fs hi hb hs
theorem ps_compB {i : Nat} {y : Str} {py spos : Pos} {elt iter : Expr} {x : Str} {px pos : Pos} {ifs : List Expr} {scope : Scope} (fs : List (Str × Nat)) {wi : TI} {tt : TT} {te : TE}
    (hN : X.N.Nodup) (hy : X.N[i]? = some y) (hyl : X.env.scope.names.lookup y = some .local) (hc : X.calm = true)
    (hi : PI X (.Name x px) iter wi)
    (hb : ∀ (cl : List (Str × Addr)) (C : Addr) (s₀ : Shared) (H₀ : Hp) (ex : List Addr), PTs (cxComp X scope cl C (x :: fs.map (·.1)) s₀ H₀ ex) ifs tt ∧ PE (cxComp X scope cl C (x :: fs.map (·.1)) s₀ H₀ ex) elt te)
    (hk : scope.kind = .function := by rfl) (hl : compLook scope.names X.env.scope.names X.N x fs = true := by kernel_rfl)
    (hsw : swapsWith (.ListComp elt [⟨.Name x px, iter, ifs, 0⟩] scope pos) (some (.Name y py)) spos.line X.env = pure true := by rfl)
    (hs : ∀ x, foldedSetIterable iter X.env x = pure x := by intro _; rfl) :
    PS X (.Assign [.Name y py] (.ListComp elt [⟨.Name x px, iter, ifs, 0⟩] scope pos) spos) (tCompSet i wi (fs.map (·.2)) tt te) :=
  let O := compOk_of (X := X) hk hl
  ps_comp fs hN hy hyl hc O.kind O.cell O.names O.free O.hx O.nd O.fs hi hb hsw hs

/-! ### the forms one uses -/
/-- over a range: Pv by the turn, the items and the heap -/
theorem comp_range {lo : Int} {n : Nat} {σ : St} {fs : List Nat} {tt : TT} {te : TE} {H : Hp} {Q : VK} (Pv : Nat → List V → Hp → Prop) (h0 : Pv 0 [] H) (hl : ∀ i ys H, i ≤ n → Pv i ys H → ys.length ≤ i) (hn : n ≤ sizeLine)
    (hs : ∀ i ys H, i < n → Pv i ys H → ∀ R : List V → Hp → Prop, (∀ ys' H', Pv (i + 1) ys' H' → R ys' H') → tt (some (.int (lo + i)) :: compSt fs σ) H fun b H2 => if b = true then te (some (.int (lo + i)) :: compSt fs σ) H2 fun y H3 => R (ys ++ [y]) H3 else R ys H2)
    (hd : ∀ ys H, Pv n ys H → ∀ p, H p = none → Q (.ref p) (upd H p (.lst ys))) :
    ∃ W : Nat → Nat → List V → Hp → Prop, (∃ m, W 0 m [] H) ∧ ∀ i m ys H, W i m ys H → ys.length ≤ sizeLine ∧
      (((Itr lo n).stop i H ∧ ∀ p, H p = none → Q (.ref p) (upd H p (.lst ys))) ∨
       ((Itr lo n).go i H ∧ ys.length < sizeLine ∧ ∀ x H', (Itr lo n).yld i H x H' → tt (some x :: compSt fs σ) H' fun b H2 => if b = true then te (some x :: compSt fs σ) H2 fun y H3 => ∃ m', m' < m ∧ W (i + 1) m' (ys ++ [y]) H3 else ∃ m', m' < m ∧ W (i + 1) m' ys H2)) := by
  refine ⟨fun i m ys H => m = n - i ∧ i ≤ n ∧ Pv i ys H, ⟨n, by simp, Nat.zero_le _, h0⟩, ?_⟩
  rintro i m ys H ⟨rfl, hi, p⟩
  have hle := hl i ys H hi p
  refine ⟨by omega, ?_⟩
  by_cases hlt : i < n
  · refine .inr ⟨hlt, by omega, fun x H' y => ?_⟩
    obtain ⟨e, y⟩ := y
    subst e y
    exact hs i ys _ hlt p (fun ys' H' => ∃ m', m' < n - i ∧ m' = n - (i + 1) ∧ i + 1 ≤ n ∧ Pv (i + 1) ys' H') fun ys' H' q => ⟨n - (i + 1), by omega, rfl, hlt, q⟩
  · have e : i = n := by omega
    subst e
    exact .inl ⟨Nat.le_refl _, hd ys H p⟩
/-- over the signs of a text -/
theorem comp_str {l : List Nat} {σ : St} {fs : List Nat} {tt : TT} {te : TE} {H : Hp} {Q : VK} (Pv : Nat → List V → Hp → Prop) (h0 : Pv 0 [] H) (hl : ∀ i ys H, i ≤ l.length → Pv i ys H → ys.length ≤ i) (hn : l.length ≤ sizeLine)
    (hs : ∀ i c ys H, l[i]? = some c → Pv i ys H → ∀ R : List V → Hp → Prop, (∀ ys' H', Pv (i + 1) ys' H' → R ys' H') → tt (some (.str (txt [c])) :: compSt fs σ) H fun b H2 => if b = true then te (some (.str (txt [c])) :: compSt fs σ) H2 fun y H3 => R (ys ++ [y]) H3 else R ys H2)
    (hd : ∀ ys H, Pv l.length ys H → ∀ p, H p = none → Q (.ref p) (upd H p (.lst ys))) :
    ∃ W : Nat → Nat → List V → Hp → Prop, (∃ m, W 0 m [] H) ∧ ∀ i m ys H, W i m ys H → ys.length ≤ sizeLine ∧
      (((Its l).stop i H ∧ ∀ p, H p = none → Q (.ref p) (upd H p (.lst ys))) ∨
       ((Its l).go i H ∧ ys.length < sizeLine ∧ ∀ x H', (Its l).yld i H x H' → tt (some x :: compSt fs σ) H' fun b H2 => if b = true then te (some x :: compSt fs σ) H2 fun y H3 => ∃ m', m' < m ∧ W (i + 1) m' (ys ++ [y]) H3 else ∃ m', m' < m ∧ W (i + 1) m' ys H2)) := by
  refine ⟨fun i m ys H => m = l.length - i ∧ i ≤ l.length ∧ Pv i ys H, ⟨l.length, by simp, Nat.zero_le _, h0⟩, ?_⟩
  rintro i m ys H ⟨rfl, hi, p⟩
  have hle := hl i ys H hi p
  refine ⟨by omega, ?_⟩
  by_cases hlt : i < l.length
  · refine .inr ⟨hlt, by omega, fun x H' y => ?_⟩
    obtain ⟨e, c, hc, y⟩ := y
    subst e y
    exact hs i c ys _ hc p (fun ys' H' => ∃ m', m' < l.length - i ∧ m' = l.length - (i + 1) ∧ i + 1 ≤ l.length ∧ Pv (i + 1) ys' H') fun ys' H' q => ⟨l.length - (i + 1), by omega, rfl, hlt, q⟩
  · have e : i = l.length := by omega
    subst e
    exact .inl ⟨Nat.le_refl _, hd ys H p⟩
theorem pe_txt {x : Str} {l : List Nat} {j pos} (h : x = txt l) : PE X (.Constant (.str x) j pos) (tC (.str (txt l))) := by subst h; exact pe_str
end
/-! ### the letters -/
def ABC : List Nat := (List.range 26).map (97 + ·)
theorem small_eq : ("abcdefghijklmnopqrstuvwxyz" : Str) = txt ABC := by decide +kernel
theorem abc_len : ABC.length = 26 := by decide
theorem abc_at {i : Nat} (h : i < 26) : ABC[i]? = some (97 + i) := by
  unfold ABC
  rw [List.getElem?_map, List.getElem?_range h]; rfl
end L2

set_option Elab.async false
set_option linter.all false
set_option maxRecDepth 100000
namespace L2
open PySem PySem.Spec PyProof.Rows

/-! ### the relations by their names -/
abbrev rAddI : R2 := rI0 fun i j => .int (i + j)
abbrev rSubI : R2 := rI0 fun i j => .int (i - j)
abbrev rDivI : R2 := rI CDiv fun i j => .int (i / j)
abbrev rModI : R2 := rI (fun _ j => 0 < j) fun i j => .int (i % j)
abbrev rShrI : R2 := rI (fun _ j => 0 ≤ j) fun i j => .int (i / 2 ^ j.toNat)
abbrev rLtI : R2 := rI0 fun i j => .bl (decide (i < j))
abbrev rGtI : R2 := rI0 fun i j => .bl (decide (j < i))
abbrev rGeI : R2 := rI0 fun i j => .bl (decide (j ≤ i))
def CMulB (i j : Int) : Prop := CMul i j ∨ (Builtin.Int.intBits i ≤ 2 ^ 20 ∧ Builtin.Int.intBits j ≤ 2 ^ 20)
theorem CMulB.l {i j : Int} (h1 : -(2 ^ 64) < i) (h2 : i < 2 ^ 64) : CMulB i j := .inl (.inl ⟨h1, h2⟩)
theorem CMulB.r {i j : Int} (h1 : -(2 ^ 64) < j) (h2 : j < 2 ^ 64) : CMulB i j := .inl (.inr ⟨h1, h2⟩)
abbrev rMulI : R2 := rI CMulB fun i j => .int (i * j)
abbrev rAddS : R2 := fun x y H Q => ∃ i j, x = .str (txt i) ∧ y = .str (txt j) ∧ i.length + j.length ≤ sizeLine ∧ Q (.str (txt (i ++ j))) H
abbrev rIxStr : R2 := fun x y H Q => ∃ (l : List Nat) (i : Nat) (c : Nat), x = .str (txt l) ∧ y = .int i ∧ l.length ≤ sizeLine ∧ l[i]? = some c ∧ Q (.str (txt [c])) H
abbrev rLtS : R2 := fun x y H Q => ∃ i j, x = .str (txt i) ∧ y = .str (txt j) ∧ Q (.bl (decide (i < j))) H
abbrev rGeS : R2 := fun x y H Q => ∃ i j, x = .str (txt i) ∧ y = .str (txt j) ∧ Q (.bl (!decide (i < j))) H
abbrev rLenS : List V → Hp → VK → Prop := fun xs H Q => ∃ z, xs = [.str (txt z)] ∧ z.length ≤ sizeLine ∧ Q (.int z.length) H
abbrev rLenL (K : PySem.W.Frag) : List V → Hp → VK → Prop := fun xs H Q => ∃ p ys, xs = [.ref p] ∧ (SqL K H p ys ∨ SqT K H p ys) ∧ Q (.int ys.length) H
abbrev rMax2 : List V → Hp → VK → Prop := fun xs H Q => ∃ i j, xs = [.int i, .int j] ∧ Q (.int (if j > i then j else i)) H
abbrev rInt1 : List V → Hp → VK → Prop := fun xs H Q => (∃ i, xs = [.int i] ∧ Q (.int i) H) ∨ ∃ k, xs = [.bl k] ∧ Q (.int (if k then 1 else 0)) H
abbrev rNeLS (K : PySem.W.Frag) : R2 := fun x y H Q => ∃ a b, ∃ xs ys : List (List Nat), x = .ref a ∧ y = .ref b ∧ SqL K H a (xs.map strV) ∧ SqL K H b (ys.map strV) ∧ (∀ y ∈ xs, PyData.strOk (txt y) = true) ∧ (∀ y ∈ ys, PyData.strOk (txt y) = true) ∧ Q (.bl (!decide (xs = ys))) H
section
variable {X : Cx}
theorem op_mulB : OpR X (binaryOp .Mult) rMulI := opI fun _ _ _ _ _ _ _ hc q => mul_int q (by
  rcases hc with h | h
  · exact h.ok
  · exact IntMulOk.of_bits h.1 h.2)
/-- a constant text of the module -/
theorem pe_gstr {x y : Str} {l : List Nat} {pos : Pos} (hg : Gl X x) (hm : ∃ t, X.mg x = some (.str y t)) (e : y = txt l) (hd : (x == ("__debug__" : Str)) = false := by decide) : PE X (.Name x pos) (tC (.str (txt l))) := by
  obtain ⟨t, hm⟩ := hm
  subst e
  exact pe_glob hg hm ⟨t, rfl⟩ hd
end

/-! ### lists that stay -/
theorem SqL.up {K : PySem.W.Frag} {H : Hp} {a p : Addr} {xs : List V} {o : HO} (h : SqL K H a xs) (hp : H p = none) : SqL K (upd H p o) a xs := by
  rcases h with (h | ⟨q, h⟩) | h
  · exact .inl (.inl (by rw [upd_ne (ne_of_none h hp)]; exact h))
  · exact .inl (.inr ⟨q, by rw [upd_ne (ne_of_none h hp)]; exact h⟩)
  · exact .inr h
theorem SqL.here {K : PySem.W.Frag} {H : Hp} {p : Addr} {xs : List V} : SqL K (upd H p (.lst xs)) p xs := .inl (.inl upd_same)
theorem SqT.here {K : PySem.W.Frag} {H : Hp} {p : Addr} {xs : List V} : SqT K (upd H p (.tup xs)) p xs := .inl (.inl upd_same)
theorem Same.new {H H' : Hp} {p : Addr} {o : HO} (s : Same H H') (hp : H' p = none) : Same H (upd H' p o) := fun b q e => by
  have := s b q e
  rw [upd_ne (ne_of_none this hp)]; exact this
theorem Same.up (H : Hp) {p : Addr} {o : HO} (hp : H p = none) : Same H (upd H p o) := (Same.refl H).new hp
/-- an index into a written list -/
theorem atI_int {α : Type} {xs : List α} {i : Int} {v : α} (h0 : 0 ≤ i) (h : xs[i.toNat]? = some v) : atI xs i = some v := by
  obtain ⟨n, rfl⟩ := Int.eq_ofNat_of_zero_le h0
  exact atI_nat (by simpa using h)
end L2

set_option Elab.async false
set_option linter.all false
set_option maxRecDepth 100000
namespace L2
open PySem PySem.Spec PyProof.Rows

/-! ### loops in short -/
/-- for x in range(j) -/
theorem for_r1 {ta : TA} {g : TG} {tb : TS} {D : Ends} {σ : St} {H : Hp} {j : Int} (ha : ∀ Q : List V → Hp → Prop, Q [.int j] H → ta σ H Q) (hlo : -(2 ^ 62) ≤ j) (hhi : j < 2 ^ 62)
    (Pv : Nat → St → Hp → Prop) (h0 : Pv 0 σ H) (hs : ∀ (i : Nat) σ H, (i : Int) < j → Pv i σ H → g (.int i) σ H fun σ2 H2 => tb { D with nx := Pv (i + 1), ct := Pv (i + 1), bk := D.nx } σ2 H2)
    (hd : ∀ σ H, Pv j.toNat σ H → D.nx σ H) : tFor (iRng1 ta) g tb D σ H := by
  refine ha _ ⟨j, rfl, hlo, hhi, ?_⟩
  refine for_range (lo := 0) (n := j.toNat) Pv h0 (fun i σ H hi p => ?_) hd
  rw [Int.zero_add]
  exact hs i σ H (by omega) p
/-- for x in range(lo, hi) -/
theorem for_r2 {ta : TA} {g : TG} {tb : TS} {D : Ends} {σ : St} {H : Hp} {l j : Int} (ha : ∀ Q : List V → Hp → Prop, Q [.int l, .int j] H → ta σ H Q) (hl0 : -(2 ^ 62) ≤ l) (hl1 : l < 2 ^ 62) (hlo : -(2 ^ 62) ≤ j) (hhi : j < 2 ^ 62)
    (Pv : Nat → St → Hp → Prop) (h0 : Pv 0 σ H) (hs : ∀ (i : Nat) σ H, l + (i : Int) < j → Pv i σ H → g (.int (l + i)) σ H fun σ2 H2 => tb { D with nx := Pv (i + 1), ct := Pv (i + 1), bk := D.nx } σ2 H2)
    (hd : ∀ σ H, Pv (j - l).toNat σ H → D.nx σ H) : tFor (iRng2 ta) g tb D σ H := by
  refine ha _ ⟨l, j, rfl, ⟨hl0, hl1, hlo, hhi⟩, ?_⟩
  exact for_range (lo := l) (n := (j - l).toNat) Pv h0 (fun i σ H hi p => hs i σ H (by omega) p) hd
/-- for x in xs, the list at a -/
theorem for_l {K : PySem.W.Frag} {tl : TE} {g : TG} {tb : TS} {D : Ends} {σ : St} {H : Hp} {a : Addr} {xs : List V} (ha : ∀ Q : VK, Q (.ref a) H → tl σ H Q) (hx : SqL K H a xs)
    (Pv : Nat → St → Hp → Prop) (h0 : Pv 0 σ H) (hl : ∀ i σ H, i ≤ xs.length → Pv i σ H → SqL K H a xs)
    (hs : ∀ i x σ H, xs[i]? = some x → Pv i σ H → g x σ H fun σ2 H2 => tb { D with nx := Pv (i + 1), ct := Pv (i + 1), bk := D.nx } σ2 H2) (hd : ∀ σ H, Pv xs.length σ H → D.nx σ H) :
    tFor (iList K tl) g tb D σ H := ha _ ⟨a, rfl, ⟨xs, hx⟩, for_list (K := K) Pv h0 hl hs hd⟩
/-- [e for x in range(lo, hi) if t] -/
theorem comp_r2 {ta : TA} {fs : List Nat} {tt : TT} {te : TE} {σ : St} {H : Hp} {Q : VK} {l j : Int} (ha : ∀ Q : List V → Hp → Prop, Q [.int l, .int j] H → ta σ H Q) (hl0 : -(2 ^ 62) ≤ l) (hl1 : l < 2 ^ 62) (hlo : -(2 ^ 62) ≤ j) (hhi : j < 2 ^ 62) (hn : (j - l).toNat ≤ sizeLine)
    (Pv : Nat → List V → Hp → Prop) (h0 : Pv 0 [] H) (hl : ∀ i ys H, i ≤ (j - l).toNat → Pv i ys H → ys.length ≤ i)
    (hs : ∀ (i : Nat) ys H, l + (i : Int) < j → Pv i ys H → ∀ R : List V → Hp → Prop, (∀ ys' H', Pv (i + 1) ys' H' → R ys' H') → tt (some (.int (l + i)) :: compSt fs σ) H fun b H2 => if b = true then te (some (.int (l + i)) :: compSt fs σ) H2 fun y H3 => R (ys ++ [y]) H3 else R ys H2)
    (hd : ∀ ys H, Pv (j - l).toNat ys H → ∀ p, H p = none → Q (.ref p) (upd H p (.lst ys))) : tComp (iRng2 ta) fs tt te σ H Q := by
  refine ha _ ⟨l, j, rfl, ⟨hl0, hl1, hlo, hhi⟩, ?_⟩
  exact comp_range (lo := l) (n := (j - l).toNat) Pv h0 hl hn (fun i ys H hi p => hs i ys H (by omega) p) hd
theorem comp_r1 {ta : TA} {fs : List Nat} {tt : TT} {te : TE} {σ : St} {H : Hp} {Q : VK} {j : Int} (ha : ∀ Q : List V → Hp → Prop, Q [.int j] H → ta σ H Q) (hlo : -(2 ^ 62) ≤ j) (hhi : j < 2 ^ 62) (hn : j.toNat ≤ sizeLine)
    (Pv : Nat → List V → Hp → Prop) (h0 : Pv 0 [] H) (hl : ∀ i ys H, i ≤ j.toNat → Pv i ys H → ys.length ≤ i)
    (hs : ∀ (i : Nat) ys H, (i : Int) < j → Pv i ys H → ∀ R : List V → Hp → Prop, (∀ ys' H', Pv (i + 1) ys' H' → R ys' H') → tt (some (.int i) :: compSt fs σ) H fun b H2 => if b = true then te (some (.int i) :: compSt fs σ) H2 fun y H3 => R (ys ++ [y]) H3 else R ys H2)
    (hd : ∀ ys H, Pv j.toNat ys H → ∀ p, H p = none → Q (.ref p) (upd H p (.lst ys))) : tComp (iRng1 ta) fs tt te σ H Q := by
  refine ha _ ⟨j, rfl, hlo, hhi, ?_⟩
  refine comp_range (lo := 0) (n := j.toNat) Pv h0 hl hn (fun i ys H hi p => ?_) hd
  rw [Int.zero_add]
  exact hs i ys H (by omega) p
/-- [e for c in text if t] -/
theorem comp_s {tl : TE} {fs : List Nat} {tt : TT} {te : TE} {σ : St} {H : Hp} {Q : VK} {l : List Nat} (ha : ∀ Q : VK, Q (.str (txt l)) H → tl σ H Q) (hn : l.length ≤ sizeLine)
    (Pv : Nat → List V → Hp → Prop) (h0 : Pv 0 [] H) (hl : ∀ i ys H, i ≤ l.length → Pv i ys H → ys.length ≤ i)
    (hs : ∀ i c ys H, l[i]? = some c → Pv i ys H → ∀ R : List V → Hp → Prop, (∀ ys' H', Pv (i + 1) ys' H' → R ys' H') → tt (some (.str (txt [c])) :: compSt fs σ) H fun b H2 => if b = true then te (some (.str (txt [c])) :: compSt fs σ) H2 fun y H3 => R (ys ++ [y]) H3 else R ys H2)
    (hd : ∀ ys H, Pv l.length ys H → ∀ p, H p = none → Q (.ref p) (upd H p (.lst ys))) : tComp (iStr tl) fs tt te σ H Q := ha _ ⟨l, rfl, comp_str Pv h0 hl hn hs hd⟩
end L2

set_option Elab.async false
set_option linter.all false
set_option maxRecDepth 100000
namespace L2
open PySem PySem.Spec PyProof.Rows

/-! ### steps of a reading that want a fact -/
theorem lenL_go {K : PySem.W.Frag} {H : Hp} {a : Addr} {xs : List V} {Q : VK} (hS : SqL K H a xs) (q : Q (.int xs.length) H) : rLenL K [.ref a] H Q := ⟨a, xs, rfl, .inl hS, q⟩
theorem lenI_go {K : PySem.W.Frag} {H : Hp} {a : Addr} {ns : List Int} {Q : VK} (hS : SqL K H a (ns.map V.int)) (q : Q (.int ns.length) H) : rLenL K [.ref a] H Q := ⟨a, _, rfl, .inl hS, by rw [List.length_map]; exact q⟩
theorem lenS_go {H : Hp} {l : List Nat} {Q : VK} (hz : l.length ≤ 100000) (q : Q (.int l.length) H) : rLenS [.str (txt l)] H Q := ⟨l, rfl, Nat.le_trans hz (by decide), q⟩
/-- an item of a list of ints, wherever -/
theorem ixI_go {K : PySem.W.Frag} {H : Hp} {a : Addr} {ns : List Int} {i : Int} {Q : VK} (hS : SqL K H a (ns.map V.int)) (h0 : 0 ≤ i) (h1 : i < ns.length) (q : ∀ z, z ∈ ns → ns[i.toNat]? = some z → Q (.int z) H) : rIxL K (.ref a) (.int i) H Q := by
  obtain ⟨n, rfl⟩ := Int.eq_ofNat_of_zero_le h0
  have hn : n < ns.length := by omega
  have e : ns[n]? = some ns[n] := List.getElem?_eq_getElem hn
  exact ⟨a, _, (n : Int), .int ns[n], rfl, rfl, hS, atI_nat (by rw [List.getElem?_map, e]; rfl), q _ (List.getElem_mem hn) (by simpa using e)⟩
/-- an item of any list -/
theorem ixL_go {K : PySem.W.Frag} {H : Hp} {a : Addr} {xs : List V} {i : Int} {v : V} {Q : VK} (hS : SqL K H a xs) (h0 : 0 ≤ i) (h : xs[i.toNat]? = some v) (q : Q v H) : rIxL K (.ref a) (.int i) H Q :=
  ⟨a, xs, i, v, rfl, rfl, hS, atI_int h0 h, q⟩
theorem ixT_go {K : PySem.W.Frag} {H : Hp} {a : Addr} {xs : List V} {i : Int} {v : V} {Q : VK} (hS : SqT K H a xs) (h0 : 0 ≤ i) (h : xs[i.toNat]? = some v) (q : Q v H) : rIxT K (.ref a) (.int i) H Q :=
  ⟨a, xs, i, v, rfl, rfl, hS, atI_int h0 h, q⟩
/-- a sign of a text -/
theorem ixS_go {H : Hp} {l : List Nat} {i : Int} {c : Nat} {Q : VK} (hz : l.length ≤ 100000) (h0 : 0 ≤ i) (h : l[i.toNat]? = some c) (q : Q (.str (txt [c])) H) : rIxStr (.str (txt l)) (.int i) H Q := by
  obtain ⟨n, rfl⟩ := Int.eq_ofNat_of_zero_le h0
  exact ⟨l, n, c, rfl, rfl, Nat.le_trans hz (by decide), by simpa using h, q⟩
theorem ixABC_go {H : Hp} {i : Int} {Q : VK} (h0 : 0 ≤ i) (h1 : i < 26) (q : Q (.str (txt [97 + i.toNat])) H) : rIxStr (.str (txt ABC)) (.int i) H Q :=
  ixS_go (by rw [abc_len]; decide) h0 (abc_at (by omega)) q
theorem addS_go {H : Hp} {l m : List Nat} {Q : VK} (hz : l.length + m.length ≤ 100000) (q : Q (.str (txt (l ++ m))) H) : rAddS (.str (txt l)) (.str (txt m)) H Q := ⟨l, m, rfl, rfl, Nat.le_trans hz (by decide), q⟩
theorem abc_idx {c : Nat} (h0 : 97 ≤ c) (h1 : c < 123) : c ∈ ABC ∧ ABC.idxOf c = c - 97 := by
  have h : ∀ d : Fin 26, (97 + d.val) ∈ ABC ∧ ABC.idxOf (97 + d.val) = d.val := by decide
  have e := h ⟨c - 97, by omega⟩
  have e2 : 97 + (c - 97) = c := by omega
  simp only [e2] at e
  exact e
theorem idxABC_go {H : Hp} {c : Nat} {Q : VK} (h0 : 97 ≤ c) (h1 : c < 123) (q : Q (.int (c - 97 : Nat)) H) : rIndex (.str (txt ABC)) [.str (txt [c])] H Q :=
  ⟨ABC, c, rfl, rfl, (abc_idx h0 h1).1, by rw [(abc_idx h0 h1).2]; exact q⟩
theorem mulB_l {i j : Int} (h1 : -18446744073709551616 < i) (h2 : i < 18446744073709551616) : CMulB i j := .l (by omega) (by omega)
theorem mulB_r {i j : Int} (h1 : -18446744073709551616 < j) (h2 : j < 18446744073709551616) : CMulB i j := .r (by omega) (by omega)
theorem cdiv {i j : Int} (h1 : 0 < j) (h2 : j < 1073741824) : CDiv i j := ⟨h1, h2⟩
theorem rstrip_go {H : Hp} {l m : List Nat} {Q : VK} (hz : l.length ≤ 100000) (q : Q (.str (txt (rstripL (fun c => m.contains c) l))) H) : rRstrip (.str (txt l)) [.str (txt m)] H Q := ⟨l, m, rfl, rfl, Nat.le_trans hz (by decide), q⟩
theorem slS_go {H : Hp} {l : List Nat} {lo hi : Option Int} {Q : VK} (hz : l.length ≤ 100000) (q : Q (.str (txt (cutL l lo hi))) H) : rSlS (.str (txt l)) lo hi H Q := ⟨l, rfl, Nat.le_trans hz (by decide), q⟩
theorem cutL_to {l : List Nat} {k : Int} (h0 : 0 ≤ k) (h1 : k ≤ l.length) : cutL l none (some k) = l.take k.toNat := by
  obtain ⟨n, rfl⟩ := Int.eq_ofNat_of_zero_le h0
  unfold cutL
  rw [HT.sIx_none, HT.sIx_nat, List.drop_zero, Nat.sub_zero]
  congr 1; simp; omega
/-- a while by its invariant and measure -/
theorem while_of {c : TT} {tb : TS} {D : Ends} {σ : St} {H : Hp} (Pv : Nat → St → Hp → Prop) (m0 : Nat) (h0 : Pv m0 σ H)
    (hs : ∀ m σ H, Pv m σ H → ∀ R : Bool → Hp → Prop, (∀ H1, tb { D with nx := fun σ' H' => ∃ m', m' < m ∧ Pv m' σ' H', ct := fun σ' H' => ∃ m', m' < m ∧ Pv m' σ' H', bk := D.nx } σ H1 → R true H1) → (∀ H1, D.nx σ H1 → R false H1) → c σ H R) : tWhile c tb D σ H := by
  refine ⟨Pv, ⟨m0, h0⟩, fun m σ H p => ?_⟩
  refine hs m σ H p _ (fun H1 h => ?_) (fun H1 h => ?_)
  · exact ⟨_, fun σ' H' h => h, h⟩
  · exact h
end L2

set_option Elab.async false
set_option linter.all false
set_option maxRecDepth 100000
namespace L2
open PySem PySem.Spec PyProof.Rows

/-! ### the judgements as boxes: nothing of them is unfolded while a term is laid; the looks at the text by the kernel alone -/
structure QE (X : Cx) (e : Expr) (t : TE) : Prop where p : PE X e t
structure QT (X : Cx) (e : Expr) (t : TT) : Prop where p : PT X e t
structure QW (X : Cx) (e : Expr) (t : TT) : Prop where p : PW X e t
structure QA (X : Cx) (es : List Expr) (t : TA) : Prop where p : PA X es t
structure QS (X : Cx) (st : Stmt) (t : TS) : Prop where p : PS X st t
structure QSs (X : Cx) (st : List Stmt) (t : TS) : Prop where p : PSs X st t
structure QG (X : Cx) (tg : Expr) (t : TG) : Prop where p : PG X tg t
structure QGs (X : Cx) (ts : List Expr) (t : TGs) : Prop where p : PGs X ts t
structure QI (X : Cx) (tg iter : Expr) (t : TI) : Prop where p : PI X tg iter t
structure QO (X : Cx) (e : Option Expr) (t : TO) : Prop where p : PO X e t
structure QTs (X : Cx) (ifs : List Expr) (t : TT) : Prop where p : PTs X ifs t
section
variable {X : Cx} {e o a b iter tg : Expr} {es : List Expr} {te to ta tb : TE} {t u : TA} {x : Str} {p pos pos' : Pos}
theorem kv (i : Nat) (hN : X.N[i]? = some x := by kernel_rfl) (hv : X.env.scope.names.lookup x = some .local := by kernel_rfl) (hd : (x == ("__debug__" : Str)) = false := by kernel_rfl)
    (hcd : (x == ("__classdict__" : Str)) = false := by kernel_rfl) : QE X (.Name x pos) (tVar i) := ⟨pe_var hN (.inl hv) hd hcd⟩
theorem kvc (i : Nat) (hN : X.N[i]? = some x := by kernel_rfl) (hv : X.env.scope.names.lookup x = some .cell := by kernel_rfl) (hd : (x == ("__debug__" : Str)) = false := by kernel_rfl)
    (hcd : (x == ("__classdict__" : Str)) = false := by kernel_rfl) : QE X (.Name x pos) (tVar i) := ⟨pe_var hN (.inr (.inl hv)) hd hcd⟩
theorem ke_int {i : Int} {j : Nat} : QE X (.Constant (.int i) j pos) (tC (.int i)) := ⟨pe_int⟩
theorem ke_bl {c : Bool} {j : Nat} : QE X (.Constant (.bool c) j pos) (tC (.bl c)) := ⟨pe_bl⟩
theorem ke_non {j : Nat} : QE X (.Constant .none j pos) (tC .non) := ⟨pe_non⟩
theorem ke_txt {y : Str} {l : List Nat} {j : Nat} (h : y = txt l := by kernel_rfl) : QE X (.Constant (.str y) j pos) (tC (.str (txt l))) := ⟨pe_txt h⟩
theorem ka_nil : QA X [] tNil := ⟨pa_nil⟩
theorem ka_cons (ha : QE X e te) (hr : QA X es t) (hs : starEach (e :: es) X.env = (false, eval e X.env) :: starEach es X.env := by kernel_rfl) : QA X (e :: es) (tCons te t) := ⟨pa_cons ha.p hr.p hs⟩
theorem ke_gstr {y : Str} {l : List Nat} (hm : ∃ t, X.mg x = some (.str y t)) (e : y = txt l) (hg : X.env.kindOf x = some .globalImplicit := by kernel_rfl) (hd : (x == ("__debug__" : Str)) = false := by kernel_rfl) : QE X (.Name x pos) (tC (.str (txt l))) := ⟨pe_gstr hg hm e hd⟩
theorem ke_call {CX : CXT} {k : Nat} {f : Addr} {fd : FuncData} {ps : List Str} {sp : Sp} {E : XK} (F : FnOk X.prog X.w X.K X.mg X.base CX k f fd ps sp) (hr : Room k X.A) (hm : X.mg x = some (.ref f)) (hk : PySem.W.keepIn X.K (.ref f) = true) (hb : Binds X.K fd ps []) (hx : Passes CX X E)
    (ha : QA X (e :: es) t) (hg : X.env.kindOf x = some .globalImplicit := by kernel_rfl) (hdb : (x == ("__debug__" : Str)) = false := by kernel_rfl) (he : starEach (e :: es) X.env = (false, eval e X.env) :: starEach es X.env := by kernel_rfl) (hpl : (backTo pos (starEach es X.env)).any (·.1) = false := by kernel_rfl) :
    QE X (.Call (.Name x p) (e :: es) [] pos) (tCall sp [] E t) := ⟨pe_call F hr hg hm hk hb .nil hx ha.p hdb he hpl⟩
theorem ke_callB {id : String} {r : List V → Hp → VK → Prop} (hc : CallR X (.builtin id) r) (hm : X.mg x = none) (hv : bootBuiltins x = some (.builtin id)) (ha : QA X (e :: es) t)
    (hg : X.env.kindOf x = some .globalImplicit := by kernel_rfl) (hn : decide (x = "__name__") = false := by kernel_rfl) (hdb : (x == ("__debug__" : Str)) = false := by kernel_rfl)
    (he : starEach (e :: es) X.env = (false, eval e X.env) :: starEach es X.env := by kernel_rfl) (hpl : (backTo pos (starEach es X.env)).any (·.1) = false := by kernel_rfl) :
    QE X (.Call (.Name x p) (e :: es) [] pos) (tCB r t) := ⟨pe_callB hc hg hm hv ha.p (of_decide_eq_false hn) hdb he hpl⟩
theorem ke_callTy {T : String} {r : List V → Hp → VK → Prop} (hc : CallR X (.type T) r) (hm : X.mg x = none) (hv : bootBuiltins x = some (.type T)) (ha : QA X (e :: es) t)
    (hg : X.env.kindOf x = some .globalImplicit := by kernel_rfl) (hn : decide (x = "__name__") = false := by kernel_rfl) (hdb : (x == ("__debug__" : Str)) = false := by kernel_rfl)
    (he : starEach (e :: es) X.env = (false, eval e X.env) :: starEach es X.env := by kernel_rfl) (hpl : (backTo pos (starEach es X.env)).any (·.1) = false := by kernel_rfl) :
    QE X (.Call (.Name x p) (e :: es) [] pos) (tCB r t) := ⟨pe_callTy hc hg hm hv ha.p (of_decide_eq_false hn) hdb he hpl⟩
theorem ke_op {op : Operator} {r : R2} (ho : OpR X (binaryOp op) r) (ha : QE X a ta) (hb : QE X b tb) : QE X (.BinOp a op b pos) (tOp r ta tb) := ⟨pe_op ho ha.p hb.p⟩
theorem ke_ifExp {c : Expr} {tc : TT} (hc : QT X c tc) (ha : QE X a ta) (hb : QE X b tb) : QE X (.IfExp c a b pos) (tIf tc ta tb) := ⟨pe_ifExp hc.p ha.p hb.p⟩
theorem ke_lst (h : QA X es t) : QE X (.List es pos) (tLst t) := ⟨pe_lst h.p⟩
theorem ke_tup {x1} (h : QA X es t) : QE X (.Tuple es x1 pos) (tTup t) := ⟨pe_tup h.p⟩
theorem ko_none : QO X none tNoPart := ⟨po_none⟩
theorem ko_some (h : QE X e te) : QO X (some e) (tPart te) := ⟨po_some h.p⟩
theorem ke_slice {p2 : Pos} {lo hi : Option Expr} {tl th : TO} {r : V → Option Int → Option Int → Hp → VK → Prop} (hr : SlR X r) (he : QE X e te) (hl : QO X lo tl) (hu : QO X hi th) : QE X (.Subscript e (.Slice lo hi none p2) pos) (tSl r te tl th) := ⟨pe_slice hr he.p hl.p hu.p⟩
theorem ke_ix {r : R2} (hr : IxR X r) (ha : QE X a ta) (hb : QE X b tb) (hs : ∀ o i, subscripted b false o i = operate [o, i] (getItem o i) := by intro _ _; kernel_rfl) : QE X (.Subscript a b pos) (tOp r ta tb) := ⟨pe_ix hr ha.p hb.p hs⟩
variable {name : Str} {apos cpos : Pos} {T id : String} {r : V → List V → Hp → VK → Prop}
theorem ke_bm (pa : PlainAttrs T) (slot : Slot T name id) (hty : typeOf (.builtin id) = pure (.type "method_descriptor")) (hm : MtR X id r) (ho : QE X o to) (ha : QA X (e :: es) t)
    (hbase : attributeBase o name X.env (eval o X.env) = eval o X.env := by kernel_rfl)
    (hfew : ((backTo cpos (starEach (e :: es) X.env)).all (fun x => !x.1) && (backToKw cpos (keywordEach [] X.env)).all (fun x => x.1.isSome)
      && decide ((e :: es).length + ([] : List Keyword).length + (if ([] : List Keyword).isEmpty then 0 else 1) < 30)) = true := by kernel_rfl)
    (hline : (apos.endLine == cpos.line) = true := by kernel_rfl) (hs : starEach (e :: es) X.env = (false, eval e X.env) :: starEach es X.env := by kernel_rfl) (hplain : (backTo cpos (starEach es X.env)).any (·.1) = false := by kernel_rfl) :
    QE X (.Call (.Attribute o name apos) (e :: es) [] cpos) (tBM X.K T r to t) := ⟨pe_bm pa slot hty hm ho.p ha.p hbase hfew hline hs hplain⟩
theorem kt_val (h : QE X e te) (he : ∀ whole, isTrue e X.env whole = (do let v ← whole; standAt e.pos; holding [v] (truthy v)) := by intro _; kernel_rfl) : QT X e (tB te) := ⟨pt_val h.p he⟩
theorem kt_cmp {op : CmpOp} {r : R2} (ho : OpR X (compareOp op) r) (ha : QE X a ta) (hb : QE X b tb) (hm : behindInMarks op b = false := by kernel_rfl) : QT X (.Compare a [op] [b] pos) (tTest (tOp r ta tb)) := ⟨pt_cmpR ho ha.p hb.p hm⟩
theorem ke_cmp {op : CmpOp} {r : R2} (ho : OpR X (compareOp op) r) (ha : QE X a ta) (hb : QE X b tb) (hm : behindInMarks op b = false := by kernel_rfl) : QE X (.Compare a [op] [b] pos) (tOp r ta tb) := ⟨pe_cmpR ho ha.p hb.p hm⟩
theorem kt_isN {j : Nat} {pos'' : Pos} (ha : QE X e te) : QT X (.Compare e [.Is] [.Constant .none j pos''] pos) (tB (tIsN te)) := ⟨pt_cmp (pc_isN ha.p) (nobehind _ (by decide) (by decide))⟩
theorem kt_notN {j : Nat} {pos'' : Pos} (ha : QE X e te) : QT X (.Compare e [.IsNot] [.Constant .none j pos''] pos) (tB (tNotN te)) := ⟨pt_cmp (pc_notN ha.p) (nobehind _ (by decide) (by decide))⟩
theorem ke_isN {j : Nat} {pos'' : Pos} (ha : QE X e te) : QE X (.Compare e [.Is] [.Constant .none j pos''] pos) (tIsN te) := ⟨pe_cmp (pc_isN ha.p) (nobehind _ (by decide) (by decide))⟩
variable {tA tB' : TT} {rest : List Expr}
theorem kt_not (ha : QT X a tA) : QT X (.UnaryOp .Not a pos) (tNot tA) := ⟨pt_not ha.p⟩
theorem kw_and1 (ha : QT X a tA) : QW X (.BoolOp .And [a] pos) tA := ⟨pw_and1 ha.p⟩
theorem kw_or1 (ha : QT X a tA) : QW X (.BoolOp .Or [a] pos) tA := ⟨pw_or1 ha.p⟩
theorem kw_and (ha : QT X a tA) (hb : QW X (.BoolOp .And (b :: rest) pos) tB') : QW X (.BoolOp .And (a :: b :: rest) pos) (tAnd tA tB') := ⟨pw_and ha.p hb.p⟩
theorem kw_or (ha : QT X a tA) (hb : QW X (.BoolOp .Or (b :: rest) pos) tB') : QW X (.BoolOp .Or (a :: b :: rest) pos) (tOr tA tB') := ⟨pw_or ha.p hb.p⟩
theorem kt_w (h : QW X e tA) : QT X e tA := ⟨h.p.pt⟩
theorem kts_nil : QTs X [] tYes := ⟨pts_nil⟩
theorem kts_one {c : Expr} {t : TT} (h : QT X c t) : QTs X [c] t := ⟨pts_one h.p⟩
theorem ki_range1 {ta : TA} (hm : X.mg "range" = none) (ha : QA X [a] ta) (hg : X.env.kindOf "range" = some .globalImplicit := by kernel_rfl) (hs : starEach [a] X.env = [(false, eval a X.env)] := by kernel_rfl) : QI X tg (.Call (.Name "range" p) [a] [] pos) (iRng1 ta) := ⟨pi_range1 hg hm ha.p hs⟩
theorem ki_range2 {ta : TA} (hm : X.mg "range" = none) (ha : QA X [a, b] ta) (hg : X.env.kindOf "range" = some .globalImplicit := by kernel_rfl) (hs : starEach [a, b] X.env = [(false, eval a X.env), (false, eval b X.env)] := by kernel_rfl) (hs2 : starEach [b] X.env = [(false, eval b X.env)] := by kernel_rfl) : QI X tg (.Call (.Name "range" p) [a, b] [] pos) (iRng2 ta) := ⟨pi_range2 hg hm ha.p hs hs2⟩
theorem ki_list {tl : TE} (hl : QE X a tl) : QI X tg a (iList X.K tl) := ⟨pi_list hl.p⟩
theorem ki_str {tl : TE} (hl : QE X a tl) : QI X tg a (iStr tl) := ⟨pi_str hl.p⟩
theorem ke_comp {elt : Expr} {px : Pos} {ifs : List Expr} {scope : Scope} (fs : List (Str × Nat)) {wi : TI} {tt : TT} {te : TE}
    (hi : QI X (.Name x px) iter wi)
    (hb : ∀ (cl : List (Str × Addr)) (C : Addr) (s₀ : Shared) (H₀ : Hp) (ex : List Addr), QTs (cxComp X scope cl C (x :: fs.map (·.1)) s₀ H₀ ex) ifs tt ∧ QE (cxComp X scope cl C (x :: fs.map (·.1)) s₀ H₀ ex) elt te)
    (hc : X.calm = true := by kernel_rfl) (hk : scope.kind = .function := by kernel_rfl) (hl : compLook scope.names X.env.scope.names X.N x fs = true := by kernel_rfl)
    (hs : ∀ x, foldedSetIterable iter X.env x = pure x := by intro _; kernel_rfl) :
    QE X (.ListComp elt [⟨.Name x px, iter, ifs, 0⟩] scope pos) (tComp wi (fs.map (·.2)) tt te) := ⟨pe_compB fs hc hi.p (fun cl C s₀ H₀ ex => ⟨(hb cl C s₀ H₀ ex).1.p, (hb cl C s₀ H₀ ex).2.p⟩) hk hl hs⟩
theorem ks_comp {i : Nat} {y : Str} {py spos : Pos} {elt : Expr} {px : Pos} {ifs : List Expr} {scope : Scope} (fs : List (Str × Nat)) {wi : TI} {tt : TT} {te : TE}
    (hN : X.N.Nodup) (hi : QI X (.Name x px) iter wi)
    (hb : ∀ (cl : List (Str × Addr)) (C : Addr) (s₀ : Shared) (H₀ : Hp) (ex : List Addr), QTs (cxComp X scope cl C (x :: fs.map (·.1)) s₀ H₀ ex) ifs tt ∧ QE (cxComp X scope cl C (x :: fs.map (·.1)) s₀ H₀ ex) elt te)
    (hy : X.N[i]? = some y := by kernel_rfl) (hyl : X.env.scope.names.lookup y = some .local := by kernel_rfl) (hc : X.calm = true := by kernel_rfl)
    (hk : scope.kind = .function := by kernel_rfl) (hl : compLook scope.names X.env.scope.names X.N x fs = true := by kernel_rfl)
    (hsw : swapsWith (.ListComp elt [⟨.Name x px, iter, ifs, 0⟩] scope pos) (some (.Name y py)) spos.line X.env = pure true := by kernel_rfl)
    (hs : ∀ x, foldedSetIterable iter X.env x = pure x := by intro _; kernel_rfl) :
    QS X (.Assign [.Name y py] (.ListComp elt [⟨.Name x px, iter, ifs, 0⟩] scope pos) spos) (tCompSet i wi (fs.map (·.2)) tt te) := ⟨ps_compB fs hN hy hyl hc hi.p (fun cl C s₀ H₀ ex => ⟨(hb cl C s₀ H₀ ex).1.p, (hb cl C s₀ H₀ ex).2.p⟩) hk hl hsw hs⟩
/-! statements -/
variable {st : Stmt} {sts : List Stmt} {t1 t2 : TS}
theorem kss_nil : QSs X [] tNext := ⟨pss_nil⟩
theorem kss_cons (h1 : QS X st t1) (h2 : QSs X sts t2) : QSs X (st :: sts) (tSeq t1 t2) := ⟨pss_cons h1.p h2.p⟩
theorem kss_one (h1 : QS X st t1) : QSs X [st] t1 := ⟨pss_one h1.p⟩
theorem ks_set {i : Nat} (hN : X.N.Nodup) (he : QE X e te) (hi : X.N[i]? = some x := by kernel_rfl) (hx : X.env.scope.names.lookup x = some .local := by kernel_rfl) (hs : swapsWith e (some (.Name x pos')) pos.line X.env = pure false := by kernel_rfl) :
    QS X (.Assign [.Name x pos'] e pos) (tAsg te (gName i)) := ⟨ps_set hN hi (.inl hx) he.p hs (.inr hx)⟩
theorem ks_setc {i : Nat} (hN : X.N.Nodup) (he : QE X e te) (hi : X.N[i]? = some x := by kernel_rfl) (hx : X.env.scope.names.lookup x = some .cell := by kernel_rfl) (hs : swapsWith e (some (.Name x pos')) pos.line X.env = pure false := by kernel_rfl) (hf : X.fn x = true := by kernel_rfl) :
    QS X (.Assign [.Name x pos'] e pos) (tAsg te (gName i)) := ⟨ps_set hN hi (.inr hx) he.p hs (.inl hf)⟩
theorem ks_expr (he : QE X e te) (hs : swapsWith e none pos.line X.env = pure false := by kernel_rfl) : QS X (.Expr e pos) (tDrop te) := ⟨ps_expr he.p hs⟩
theorem ks_ret (he : QE X e te) : QS X (.Return (some e) pos) (tRet te) := ⟨ps_ret he.p⟩
theorem ks_if {c : Expr} {l1 l2 : List Stmt} {tc : TT} (hc : QT X c tc) (ha : QSs X l1 t1) (hb : QSs X l2 t2) : QS X (.If c l1 l2 pos) (tIfS tc t1 t2) := ⟨ps_if hc.p ha.p hb.p⟩
theorem ks_while {c : Expr} {body : List Stmt} {tc : TT} (hc : QT X c tc) (hb : QSs X body t1) (hp : PassesOwn (model X.prog X.w) X.A X.env X.xe := by exact PassesOwn.never) : QS X (.While c body [] pos) (tWhile tc t1) := ⟨ps_while hp hc.p hb.p⟩
theorem kg_name {i : Nat} (hN : X.N.Nodup) (hi : X.N[i]? = some x := by kernel_rfl) (hx : X.env.scope.names.lookup x = some .local := by kernel_rfl) : QG X (.Name x pos) (gName i) := ⟨pg_name hN hi (.inl hx) (.inr hx)⟩
theorem ks_for {body : List Stmt} {wi : TI} {g : TG} {tb : TS} (hi : QI X tg iter wi) (hg : QG X tg g) (hb : QSs X body tb) (hp : PassesOwn (model X.prog X.w) X.A X.env X.xe := by exact PassesOwn.never) (hc : X.calm = true := by kernel_rfl) (hs : ∀ x, foldedSetIterable iter X.env x = pure x := by intro _; kernel_rfl) : QS X (.For tg iter body [] pos) (tFor wi g tb) := ⟨ps_for hp hc hi.p hg.p hb.p hs⟩
theorem ks_asg {g : TG} (he : QE X e te) (hg : QG X tg g) (hs : swapsWithSole [tg] e pos.line X.env = pure false := by kernel_rfl) (hw : swappedStores [tg] e X.env = pure none := by kernel_rfl)
    (h1 : (assignEach [tg] X.env).map (·.2) = [assign tg X.env] := by kernel_rfl) : QS X (.Assign [tg] e pos) (tAsg te g) := ⟨ps_asg he.p hg.p hs hw h1⟩
theorem kgs_nil : QGs X [] gNil := ⟨pgs_nil⟩
theorem kgs_cons {t : TG} {u : TGs} (h1 : QG X e t) (h2 : QGs X es u) (hs : (assignEach (e :: es) X.env).map (·.2) = assign e X.env :: (assignEach es X.env).map (·.2) := by kernel_rfl) : QGs X (e :: es) (gCons t u) := ⟨pgs_cons h1.p h2.p hs⟩
theorem kg_tup {k : Nat} {t : TGs} {n : Nat} (h : QGs X es t) (hc : X.calm = true := by kernel_rfl) (hn : (assignEach es X.env).length = n := by kernel_rfl) (hst : (assignEach es X.env).findIdx? (·.1) = none := by kernel_rfl) : QG X (.Tuple es k pos) (gTup X.K n t) := ⟨pg_tup hc h.p hn hst⟩
end
theorem Fun.okQ {P : Program} {w : World} {K : PySem.W.Frag} {mg : Str → Option Value} {base : Heap} {x qual : Str} {st : Stmt} {f : Addr} {fd : FuncData} {N ps : List Str} {k : Nat} {sp : Sp} (F : Fun K x qual st f fd) (S : FnScope N ps (defScope st)) {rd : TS} (len : ∀ vs H Q E, sp vs H Q E → vs.length = ps.length)
    (hb : ∀ (cdv : Value) (A : Around) (outer : List Env) (s : Shared) (H : Hp) (E : XK), Room k (A.deeper (envOfC qual (defScope st) s.heap.objs.size f cdv)) → QSs (cxOf CX0 P w K mg base N qual (defScope st) f cdv A outer s H E).nox (defBody st) rd)
    (hq : ∀ (vs : List V) (H : Hp) (Q : VK) (E : XK), sp vs H Q E → rd { nx := fun _ H' => Q .non H', rt := Q } (start N vs) H) : FnOk P w K mg base CX0 (k + 1) f fd ps sp :=
  F.ok S len fun cdv A outer s H vs Q E hr h => ⟨rd, (hb cdv A outer s H E hr).p, hq vs H Q E h⟩
end L2

set_option Elab.async false
set_option linter.all false
set_option maxRecDepth 100000
namespace L2
open PySem PySem.Spec PyProof.Rows

section
variable {X : Cx}
/-- isinstance(x, T), T a built-in type -/
def isTy (t T : String) : Option Bool := if (Value.type t == Value.type T) = true then some true else if PySem.W.kitMeta T = true then (fastBuiltinMro t).map (·.contains (.type T)) else none
theorem isTy_kit {K : PySem.W.Frag} {t T : String} {b : Bool} (h : isTy t T = some b) : PySem.W.kitOne K (.type t) (.type T) = some b := h
theorem isTy_list_list : isTy "list" "list" = some true := by kernel_rfl
def rIsi (K : PySem.W.Frag) (T : String) : V → Hp → VK → Prop := fun x H Q => ∃ t b, TyOf K H x (.type t) ∧ isTy t T = some b ∧ Q (.bl b) H
def tIsi (K : PySem.W.Frag) (T : String) (ta : TE) : TE := fun σ H Q => ta σ H fun x H1 => rIsi K T x H1 Q
theorem ke_isi {e : Expr} {te : TE} {y z : Str} {T : String} {p p2 pos : Pos} (hm : X.mg y = none) (hv : bootBuiltins y = some (.builtin "isinstance")) (hm2 : X.mg z = none) (hv2 : bootBuiltins z = some (.type T)) (he : QE X e te)
    (hg : X.env.kindOf y = some .globalImplicit := by kernel_rfl) (hn : decide (y = "__name__") = false := by kernel_rfl) (hdb : (y == ("__debug__" : Str)) = false := by kernel_rfl)
    (hg2 : X.env.kindOf z = some .globalImplicit := by kernel_rfl) (hn2 : decide (z = "__name__") = false := by kernel_rfl) (hdb2 : (z == ("__debug__" : Str)) = false := by kernel_rfl)
    (hs1 : starEach [e, .Name z p2] X.env = (false, eval e X.env) :: starEach [.Name z p2] X.env := by kernel_rfl) (hs2 : starEach [.Name z p2] X.env = (false, eval (.Name z p2) X.env) :: starEach [] X.env := by kernel_rfl)
    (hpl : (backTo pos (starEach [.Name z p2] X.env)).any (·.1) = false := by kernel_rfl) :
    QE X (.Call (.Name y p) [e, .Name z p2] [] pos) (tIsi X.K T te) := by
  have hR : CallR X (.builtin "isinstance") (fun xs H Q => ∃ x, xs = [x, .ty T] ∧ rIsi X.K T x H Q) := by
    intro pins s σ H xs us Q I r h
    obtain ⟨x, rfl, t, b, ty, hk, q⟩ := h
    obtain ⟨u, w', rfl, ru, rw'⟩ := vals2 r
    obtain rfl : w' = Value.type T := rw'
    exact isinst_ok I ru ty (isTy_kit hk) fun tk => ⟨.bl b, H, I.tok tk, rfl, q⟩
  have hP := pe_callB (x := y) (p := p) (pos := pos) hR hg hm hv (pa_cons he.p (pa_cons (pe_bltn (v := .ty T) hg2 hm2 hv2 rfl (of_decide_eq_false hn2) hdb2) pa_nil hs2) hs1) (of_decide_eq_false hn) hdb hs1 hpl
  refine ⟨fun pins s σ H Q I h => hP pins s σ H Q I ?_⟩
  show te σ H fun x H1 => _
  exact (show (te σ H fun x H1 => rIsi X.K T x H1 Q) → te σ H (fun x H1 => ∃ x', [x, V.ty T] = [x', .ty T] ∧ rIsi X.K T x' H1 Q) from fun q => by
    have e : (fun x H1 => ∃ x', [x, V.ty T] = [x', .ty T] ∧ rIsi X.K T x' H1 Q) = fun x H1 => rIsi X.K T x H1 Q := by
      funext x H1
      refine propext ⟨fun ⟨x', e, q⟩ => ?_, fun q => ⟨x, rfl, q⟩⟩
      cases e; exact q
    rw [e]; exact q) h
theorem isiL_go {K : PySem.W.Frag} {H : Hp} {a : Addr} {xs : List V} {Q : VK} (h : H a = some (.lst xs)) (q : Q (.bl true) H) : rIsi K "list" (.ref a) H Q := ⟨_, _, .lst h, isTy_list_list, q⟩
end
end L2

set_option Elab.async false
set_option linter.all false
set_option maxRecDepth 100000
namespace L2
open PySem PySem.Spec PyProof.Rows

/-! ### an exception behind a call: B is the heap as it stood when it was raised, without the frames that ran; it stays -/
structure UnB (fs : List Addr) (H H' : Hp) (h B h' : Heap) : Prop where
  keep : ∀ b o, h.get? b = some o → H b = none → b ∉ fs → B.get? b = some o
  slot : ∀ b o, h.get? b = some o → H b = none → b ∈ fs → ∃ sl, h'.get? b = some { o with slots := sl }
  free : ∀ b o, h.get? b = some o → H b = none → H' b = none
  there : ∀ b o, h.get? b = some o → b ∉ fs → ∃ o', B.get? b = some o'
  tups : ∀ b xs, H b = some (.tup xs) → H' b = some (.tup xs)
  frzs : ∀ b o u, H b = some (.frz o u) → H' b = some (.frz o u)
  tbls : ∀ b ps, H b = some (.tbl ps) → ∃ more, H' b = some (.tbl (ps ++ more))
def CX1 (P : Program) (w : World) : CXT := fun outer H s E e s' => ∃ (ea : Addr) (cls : Value) (t : Addr) (H' : Hp) (B : Heap), e = .ref ea ∧ s'.os = s.os ∧ AllBare s'.gens ∧
  Heap.FlyingW B outer ea cls (.ref t) s'.heap ∧ HOk P w H' B ∧ UnB (frs outer) H H' s.heap B s'.heap ∧ E cls none H'

theorem frs_none {base h : Heap} {l : List Env} (f : h.FunFrames base l) {b : Addr} (hb : b ∈ frs l) : base.get? b = none ∧ ∃ o, h.get? b = some o ∧ ∀ vs, o.data ≠ .fields vs := f.mem hb
section
variable {P : Program} {w : World} {K : PySem.W.Frag} {mg : Str → Option Value} {base : Heap} {N : List Str} {qual : Str} {scope : Scope} {f : Addr} {cd : Value} {A : Around} {outer : List Env} {s : Shared} {H : Hp} {E : XK}

/-- raised in a def's body: it leaves the frame -/
theorem made_def {pins : List (Addr × Obj)} {σ : St} {H2 : Hp} {s2 : Shared} {h' : Heap} {e : Addr} {cls : Value} {vs : List Value} (I : Inv (cxOf (CX1 P w) P w K mg base N qual scope f cd A outer s H E) pins σ H2 s2)
    (hx : Heap.MadeExcOf s2.heap h' e cls vs) (q : E cls none H2) : (cxOf (CX1 P w) P w K mg base N qual scope f cd A outer s H E).xe (.ref e) { s2 with heap := h' } := by
  generalize eF : frs (cxOf (CX1 P w) P w K mg base N qual scope f cd A outer s H E).stack = F
  have hin : ∀ env ∈ (cxOf (CX1 P w) P w K mg base N qual scope f cd A outer s H E).stack, ∀ b, env.frame = some b → b ∈ F := fun env he b hb => by rw [← eF]; exact List.mem_filterMap.mpr ⟨env, he, hb⟩
  have neL : ∀ b o, s.heap.get? b = some o → b ≠ s.heap.objs.size := fun b o e => Nat.ne_of_lt (Heap.lt_size e)
  have nF : ∀ b o, s.heap.get? b = some o → b ∉ frs outer → b ∉ F := fun b o e hb z => by
    rw [← eF] at z
    rcases List.mem_cons.mp (I.stkSub b z) with y | y
    · exact neL b o e y
    · exact hb y
  have gB : ∀ b o, s2.heap.get? b = some o → b ∉ F → (PySem.W.hideAll s2.heap F).get? b = some o := fun b o e hb => PySem.W.hideAll_get _ e hb
  show wpAny _ _ (leaving _ (.ref e)) _ _ _
  refine wpAny_leaves_madeW (base := PySem.W.hideAll s2.heap F) (h := s2.heap) I.ok.frames rfl (fun b o q => PySem.W.of_hideAll _ q) (PySem.W.funFrames_hide I.stack hin) hx fun h2 t hfl htup hn hsm => ?_
  refine ⟨e, cls, t, H2, PySem.W.hideAll s2.heap F, rfl, I.os, I.bare, hfl, fun a o ea => (I.hok a o ea).stay (fun b u hb eu => gB b u eu fun z => ?_) (fun c q => q) (fun c xs q => q), ⟨fun b o eb n hb => ?_, fun b o eb n hb => ?_, fun b o eb n => ?_, fun b o eb hb => ?_, I.base.tups, I.base.frzs, I.base.tbls⟩, q⟩
  · have hf := I.stkFree b (by rw [eF]; exact z)
    rcases hb with rfl | hb
    · rw [hf] at ea; cases ea
    · rw [hf] at hb; cases hb
  · exact gB b o (I.base.keep b o eb n hb (List.not_mem_nil)) (nF b o eb hb)
  · obtain ⟨sl, e1⟩ := I.base.slot b o eb n hb (List.not_mem_nil)
    obtain ⟨_, o2, e2, d2⟩ := frs_none I.stack (List.mem_cons_of_mem _ hb : b ∈ s.heap.objs.size :: frs outer)
    rw [e1] at e2
    cases e2
    obtain ⟨sl', e3⟩ := hsm b _ (hx.keeps _ _ e1) d2
    exact ⟨sl', e3⟩
  · exact I.base.free b o eb n (List.not_mem_nil)
  · obtain ⟨o', e1⟩ := I.base.there b o eb (List.not_mem_nil)
    exact ⟨o', gB b o' e1 (nF b o eb hb)⟩
/-- raised by a callee: it leaves this frame too -/
theorem pass_def : Passes (CX1 P w) (cxOf (CX1 P w) P w K mg base N qual scope f cd A outer s H E) E := by
  rintro pins σ H1 s1 e s2 I ⟨ea, cls, t, H2, B, rfl, hos, hg, hfl, hok, ub, q⟩
  have neL : ∀ b o, s.heap.get? b = some o → b ≠ s.heap.objs.size := fun b o e => Nat.ne_of_lt (Heap.lt_size e)
  have nF : ∀ b o, s.heap.get? b = some o → b ∉ frs outer → b ∉ frs (cxOf (CX1 P w) P w K mg base N qual scope f cd A outer s H E).stack := fun b o e hb z => by
    rcases List.mem_cons.mp (I.stkSub b z) with y | y
    · exact neL b o e y
    · exact hb y
  have yF : ∀ b, b ∈ frs outer → b ∈ frs (cxOf (CX1 P w) P w K mg base N qual scope f cd A outer s H E).stack := fun b hb => (List.mem_cons_of_mem _ hb : b ∈ s.heap.objs.size :: frs outer)
  show wpAny _ _ (leaving _ (.ref ea)) _ _ _
  refine wpAny_leaves_onW I.ok.frames rfl hfl fun h3 hfl3 hsm => ?_
  refine ⟨ea, cls, t, H2, B, rfl, hos.trans I.os, hg, hfl3, hok, ⟨fun b o eb n hb => ?_, fun b o eb n hb => ?_, fun b o eb n => ?_, fun b o eb hb => ?_, fun b xs e => ub.tups b xs (I.base.tups b xs e), fun b o u e => ub.frzs b o u (I.base.frzs b o u e), fun b ps e => ?_⟩, q⟩
  · exact ub.keep b o (I.base.keep b o eb n hb (List.not_mem_nil)) (I.base.free b o eb n (List.not_mem_nil)) (nF b o eb hb)
  · obtain ⟨sl, e1⟩ := I.base.slot b o eb n hb (List.not_mem_nil)
    obtain ⟨sl', e2⟩ := ub.slot b _ e1 (I.base.free b o eb n (List.not_mem_nil)) (yF b hb)
    obtain ⟨_, o2, e3, d3⟩ := frs_none hfl.2.2.1 (yF b hb)
    rw [e2] at e3
    cases e3
    obtain ⟨sl2, e4⟩ := hsm b _ e2 d3
    exact ⟨sl2, e4⟩
  · obtain ⟨o', e1⟩ := I.base.there b o eb (List.not_mem_nil)
    exact ub.free b o' e1 (I.base.free b o eb n (List.not_mem_nil))
  · obtain ⟨o', e1⟩ := I.base.there b o eb (List.not_mem_nil)
    exact ub.there b o' e1 (nF b o eb hb)
  · obtain ⟨m1, e1⟩ := I.base.tbls b ps e
    obtain ⟨m2, e2⟩ := ub.tbls b _ e1
    exact ⟨m1 ++ m2, by rw [e2, Array.append_assoc]⟩
end

/-! ### raise C(e) -/
/-- the class's own facts, as the fragment bears them -/
theorem exc_obj {K : PySem.W.Frag} {h : Heap} {C : Addr} {bmB : List Value} {newId : String} (X : K.In h) (q : PySem.W.excIn K C bmB newId = true) :
    ∃ bm N nm qn bs hdct sn sub ab col dd k0 k1 k2 k3 k5 mN, h.get? C = some (excClassObj nm qn C N bs bm hdct sn sub ab col dd k0 k1 k2 k3 k5 newId) ∧ h.Ns N mN ∧ mN "__init__" = none ∧ OwnTail h bmB bm := by
  unfold PySem.W.excIn at q
  split at q
  next dd cd sl look =>
    split at q
    next C1 tl a0 a1 a2 a3 nid a5 e1 e2 =>
      simp only [Bool.and_eq_true, beq_iff_eq, Bool.not_eq_true'] at q
      obtain ⟨⟨⟨⟨⟨q1, q2⟩, q3⟩, q4⟩, q5⟩, q6⟩ := q
      subst q1 q2
      cases cd
      dsimp only at e1 q3 q5 q6
      subst e1 q3
      have e3 : sl = #[a0, a1, a2, a3, some (.builtin nid), a5] := by
        cases sl
        dsimp only at e2
        rw [e2]
      subst e3
      exact ⟨tl, _, _, _, _, _, _, _, _, _, _, _, _, _, _, _, _, X _ _ look, .of_isNs (PySem.W.isNs_of_in X q5), PySem.W.nsMap_none_of_in X q5 q6, PySem.W.tail_of_in X q4⟩
    next => cases q
  next => cases q
def tRaise (cls : Value) (E : XK) (ta : TA) : TS := fun _ σ H => ta σ H fun vs H1 => vs.length ≤ 8 ∧ E cls none H1
section
variable {X : Cx}
theorem ps_raise {x : Str} {e : Expr} {es : List Expr} {ta : TA} {C : Addr} {B newId initId : String} {bmB : List Value} {E : XK} {np cpos pos : Pos} (FB : ExcBaseFacts B newId initId bmB) (hC : PySem.W.excIn X.K C bmB newId = true)
    (hg : Gl X x) (hm : X.mg x = some (.ref C)) (hc : X.calm = true) (ha : PA X (e :: es) ta)
    (hx : ∀ (pins : List (Addr × Obj)) (σ : St) (H2 : Hp) (s2 : Shared) (h' : Heap) (ea : Addr) (vs : List Value), Inv X pins σ H2 s2 → Heap.MadeExcOf s2.heap h' ea (.ref C) vs → E (.ref C) none H2 → X.xe (.ref ea) { s2 with heap := h' })
    (hdb : (x == ("__debug__" : Str)) = false) (he : starEach (e :: es) X.env = (false, eval e X.env) :: starEach es X.env) (hpl : (backTo cpos (starEach es X.env)).any (·.1) = false) :
    PS X (.Raise (some (.Call (.Name x np) (e :: es) [] cpos)) none pos) (tRaise (.ref C) E ta) := by
  intro pins s σ H D I h
  obtain ⟨bm, N, nm, qn, bs, hdct, sn, sub, ab, col, dd, k0, k1, k2, k3, k5, mN, hO, hN, hni, TL⟩ := exc_obj I.mod.kin hC
  refine wpAny_Raise_call_subT (C := C) (nm := nm) (q := qn) (N := N) (bs := bs) (bm := bm) (hdct := hdct) (sn := sn) (sub := sub) (ab := ab) (col := col) (dd := dd) (k0 := k0) (k1 := k1) (k2 := k2) (k3 := k3) (k5 := k5)
    FB (mN := mN) (TL.hasType FB.hasBase) (I.ok.hd hc) (by rw [he]; show (false || (backTo cpos (starEach es X.env)).any (·.1)) = false; rw [hpl]; rfl) hni (ld_glob I hg hm ⟨rfl, ?_⟩ hdb)
  have hA := ha cpos pins s σ H _ I h
  rw [he] at hA ⊢
  refine Calls.evalArgs_plain (thn hA fun us s2 ⟨vs, H2, I2, r2, hz, q2⟩ => ⟨rfl, ?_, I2.bk _ _ hO, hN.keeps I2.bk, TL.keeps I2.bk, fun h' ea hmade => hx pins σ H2 s2 h' ea us I2 hmade q2⟩)
  show us.length ≤ sizeLine
  rw [← r2.length]
  exact Nat.le_trans hz (by decide)
end
end L2

set_option Elab.async false
set_option linter.all false
set_option maxRecDepth 100000
namespace L2
open PySem PySem.Spec PyProof.Rows

/-! ### an own exception class matches an own class above it -/
theorem exc_mro {K : PySem.W.Frag} {h : Heap} {C : Addr} {bmB : List Value} {newId : String} (X : K.In h) (q : PySem.W.excIn K C bmB newId = true) :
    ∃ bm N nm qn bs hdct sn sub ab col dd k0 k1 k2 k3 k5, h.get? C = some (excClassObj nm qn C N bs bm hdct sn sub ab col dd k0 k1 k2 k3 k5 newId) ∧ OwnTail h bmB bm ∧ ∀ v r, PySem.W.mroIn K C v = some r → (Value.ref C :: bm).contains v = r := by
  obtain ⟨bm, N, nm, qn, bs, hdct, sn, sub, ab, col, dd, k0, k1, k2, k3, k5, mN, hO, hN, hni, TL⟩ := exc_obj X q
  refine ⟨bm, N, nm, qn, bs, hdct, sn, sub, ab, col, dd, k0, k1, k2, k3, k5, hO, TL, fun v r e => ?_⟩
  unfold PySem.W.mroIn PySem.W.clsIn at e
  split at e
  next c d cd sl look =>
    have e2 := X _ _ look
    rw [hO] at e2
    cases e2
    simpa using e
  next => cases e
theorem matches_own {M : Model} {A : Around} {E : Value → Shared → Prop} {h : Heap} {g : Array GenState} {d : Drawn} {t : Nat} {os : OsState} {e C D : Addr} {oe : Obj} {Q : Bool → Shared → Prop}
    {nm q nm' q' : Str} {N N' : Addr} {bs bm bs' bm' : List Value} {hdct hdct' : Bool} {sn sn' : List Str} {sub sub' : List Value} {ab ab' : Bool} {col col' : Option Bool} {dd dd' : Option Addr} {k0 k1 k2 k3 k5 l0 l1 l2 l3 l5 : Option Value} {newId newId' : String}
    (hC : h.get? C = some (excClassObj nm q C N bs bm hdct sn sub ab col dd k0 k1 k2 k3 k5 newId)) (hD : h.get? D = some (excClassObj nm' q' D N' bs' bm' hdct' sn' sub' ab' col' dd' l0 l1 l2 l3 l5 newId')) (he : h.get? e = some oe) (hcls : oe.cls = .ref C)
    (hbase : bm'.contains (.type "BaseException") = true) (hs : (Value.ref C :: bm).contains (.ref D) = true) (hq : Q true ⟨h, g, d, t, os⟩) : wpAny M A (excMatches (.ref e) (.ref D)) Q E ⟨h, g, d, t, os⟩ := by
  have hcB : (Value.ref D :: bm').contains (.type "BaseException") = true := by rw [List.contains_cons, hbase, Bool.or_true]
  have nt := tc_notTuple
  unfold excMatches
  repeat (first | (with_reducible refine wpAny_loadPart_at he ?_; rw [hcls]) | with_reducible refine wpAny_loadPart_at hD ?_ | (with_reducible refine wpAny_isSubtype_exc hD ?_; rw [hcB]) | (with_reducible refine wpAny_isSubtype_exc hC ?_; rw [hs]) | wp_step)
  exact hq
/-- the class at C is caught by «except D» -/
structure ExcSub (K : PySem.W.Frag) (C D : Addr) : Prop where
  c : ∃ bmB newId, PySem.W.excIn K C bmB newId = true
  d : ∃ bmB newId, PySem.W.excIn K D bmB newId = true ∧ bmB.contains (.type "BaseException") = true
  s : PySem.W.mroIn K C (.ref D) = some true

/-! ### a call whose exception is taken here -/
def PassesX (X : Cx) (Φ : St → XK → Prop) : Prop := ∀ (pins : List (Addr × Obj)) (σ : St) (H : Hp) (s : Shared) (E : XK) (e : Value) (s' : Shared), Inv X pins σ H s → Φ σ E → CX1 X.prog X.w X.stack H s E e s' → X.xe e s'
def tCallX (sp : Sp) (Φ : St → XK → Prop) (t : TA) : TE := fun σ H Q => t σ H fun vs H1 => ∃ E, Φ σ E ∧ sp vs H1 Q E
section
variable {X : Cx} {e : Expr} {es : List Expr} {t : TA} {x : Str} {p pos : Pos}
theorem pe_callX {Φ : St → XK → Prop} {k : Nat} {f : Addr} {fd : FuncData} {ps : List Str} {sp : Sp} (F : FnOk X.prog X.w X.K X.mg X.base (CX1 X.prog X.w) k f fd ps sp) (hr : Room k X.A) (hg : Gl X x) (hm : X.mg x = some (.ref f)) (hk : PySem.W.keepIn X.K (.ref f) = true) (hb : Binds X.K fd ps []) (hx : PassesX X Φ)
    (ha : PA X (e :: es) t) (hdb : (x == ("__debug__" : Str)) = false) (he : starEach (e :: es) X.env = (false, eval e X.env) :: starEach es X.env) (hpl : (backTo pos (starEach es X.env)).any (·.1) = false) :
    PE X (.Call (.Name x p) (e :: es) [] pos) (tCallX sp Φ t) := by
  intro pins s σ H Q I h
  refine wpAny_Call_Name_kw (ld_glob I hg hm ?_ hdb)
  refine PySem.W.callWith_K (h₀ := X.base) I.ok.mod.kin hk (thn (ha pos pins s σ H _ I h) fun us s1 ⟨vs, H1, I1, r, q⟩ => ⟨I1.kIn, ?_⟩) he hpl
  obtain ⟨E, hΦ, q⟩ := q
  have hl : us.length = ps.length := by rw [← r.length]; exact F.len _ _ _ _ q
  have hb2 := hb s1 us I1.kIn (by rw [List.append_nil]; exact hl)
  rw [List.append_nil] at hb2
  refine wpAny_call (codeAny_mono (F.run X.A X.stack s1 H1 ⟨us, []⟩ us vs Q E hr I1.env0 hb2 r q) fun r s' hq => ?_)
  cases r with
  | error e => exact hx pins σ H1 s1 E e s' I1 hΦ hq
  | ok fl =>
    cases fl with
    | ret u => exact I1.after hq
    | next => exact False.elim hq
    | brk => exact False.elim hq
    | cont => exact False.elim hq
end

theorem HOk.untracked {P : Program} {w : World} {H : Hp} {B : Heap} {a : Addr} (hok : HOk P w H B) (hno : B.get? a = none) : H a = none := by
  cases e2 : H a with
  | none => rfl
  | some o =>
    have hlt := hok a o e2
    exfalso
    cases o with
    | lst xs => obtain ⟨_, _, _, _, z⟩ := hlt; rw [hno] at z; cases z
    | tup xs => obtain ⟨_, _, _, z⟩ := hlt; obtain ⟨_, z, _⟩ := z; rw [hno] at z; cases z
    | dK kvs => obtain ⟨_, _, _, _, _, _, _, z, _⟩ := hlt; rw [hno] at z; cases z
    | dT kvs => obtain ⟨_, _, _, _, _, _, _, z, _⟩ := hlt; rw [hno] at z; cases z
    | set S n => obtain ⟨_, _, _, _, z, _⟩ := hlt; rw [hno] at z; cases z
    | ins C dx fs => obtain ⟨_, _, _, z, _⟩ := hlt; rw [hno] at z; cases z
    | own y => obtain ⟨_, z⟩ := hlt; rw [hno] at z; cases z
    | xd fs => obtain ⟨_, ⟨_, _, _, z, _⟩, _⟩ := hlt; rw [hno] at z; cases z
    | rng lo hi => obtain ⟨_, _, _, z⟩ := hlt; rw [hno] at z; cases z
    | frz ob u => obtain ⟨z, _⟩ := hlt; rw [hno] at z; cases z
    | tbl ps => have z : B.get? a = some _ := hlt; rw [hno] at z; cases z
    | met f y => have z : B.get? a = some _ := hlt; rw [hno] at z; cases z
    | ext φ => obtain ⟨_, ⟨_, z⟩, _⟩ := hlt; rw [hno] at z; cases z

/-! ### try: .. except D: .. -/
/-- the context of the suite that takes the exception -/
abbrev Cx.hand (X : Cx) (ea : Addr) : Cx := { X with A := X.A.mark (some (.ref ea)), calm := false, xe := fun _ _ => False }
/-- the context of the body -/
abbrev Cx.tried (X : Cx) (xe : Value → Shared → Prop) (pn : List (Addr × Obj)) : Cx := { X with xe := xe, pn := pn }
section
variable {X : Cx} {pins : List (Addr × Obj)} {σ : St} {H : Hp} {s : Shared}
theorem Inv.hand (I : Inv X pins σ H s) (ea : Addr) : Inv (X.hand ea) pins σ H s :=
  ⟨⟨I.ok.mod, I.ok.kind, I.ok.glob, I.ok.blt, I.ok.above, I.ok.inj, I.ok.has, I.ok.cab, fun h => (nomatch (show false = true from h)), I.ok.frames, I.ok.stk, I.ok.exf, I.ok.bs, I.ok.bsz, I.ok.noex, I.ok.exfs, I.ok.funs, I.ok.frf⟩, I.os, I.bare, I.base, I.loc, I.cell, I.free, I.freeC, I.pin, I.hok, I.len⟩
theorem Inv.unhand {ea : Addr} (ok : X.Ok) (I : Inv (X.hand ea) pins σ H s) : Inv X pins σ H s := ⟨ok, I.os, I.bare, I.base, I.loc, I.cell, I.free, I.freeC, I.pin, I.hok, I.len⟩
theorem Inv.tried (I : Inv X pins σ H s) (xe : Value → Shared → Prop) : Inv (X.tried xe (X.pn ++ pins)) [] σ H s :=
  ⟨⟨I.ok.mod, I.ok.kind, I.ok.glob, I.ok.blt, I.ok.above, I.ok.inj, I.ok.has, I.ok.cab, I.ok.hd, I.ok.frames, I.ok.stk, I.ok.exf, I.ok.bs, I.ok.bsz, I.ok.noex, I.ok.exfs, I.ok.funs, I.ok.frf⟩, I.os, I.bare, I.base, I.loc, I.cell, I.free, I.freeC, fun p hp => I.pin p (by simpa using hp), I.hok, I.len⟩
theorem Inv.untried {xe : Value → Shared → Prop} {pins' : List (Addr × Obj)} (ok : X.Ok) (I : Inv (X.tried xe (X.pn ++ pins)) pins' σ H s) : Inv X pins σ H s :=
  ⟨ok, I.os, I.bare, I.base, I.loc, I.cell, I.free, I.freeC, fun p hp => I.pin p (List.mem_append_left _ hp), I.hok, I.len⟩
/-- it has landed: the state as the suite finds it -/
theorem landed_inv {e : Addr} {cls a0 : Value} {H' : Hp} {B h6 : Heap} {s' : Shared} (I : Inv X pins σ H s) (hos : s'.os = s.os) (hg : AllBare s'.gens) (hok : HOk X.prog X.w H' B) (ub : UnB (frs X.stack) H H' s.heap B s'.heap)
    (hfl0 : Heap.FlyingW B X.stack e cls a0 s'.heap) (hfl : Heap.FlyingW B X.stack e cls a0 h6) (hsm : s'.heap.UpToSlots h6) : Inv X pins σ H' { s' with heap := h6 } := by
  refine I.call' (s' := { s' with heap := h6 }) (ch := []) hos ⟨fun b o eb n hb _ => hfl.1 _ _ (ub.keep b o eb n hb), fun b o eb n hb _ => ?_, fun b o eb n _ => ub.free b o eb n, fun b o eb _ => ?_, ub.tups, ub.frzs, ub.tbls⟩ (hok.kept fun b u e => hfl.1 b u e) hg (fun b hb => absurd hb List.not_mem_nil)
  · obtain ⟨sl, e1⟩ := ub.slot b o eb n hb
    obtain ⟨_, o2, e3, d3⟩ := frs_none hfl0.2.2.1 hb
    rw [e1] at e3
    cases e3
    obtain ⟨sl2, e4⟩ := hsm b _ e1 d3
    exact ⟨sl2, e4⟩
  · by_cases hb : b ∈ frs X.stack
    · obtain ⟨_, o2, e3, _⟩ := frs_none hfl.2.2.1 hb
      exact ⟨o2, e3⟩
    · obtain ⟨o', e1⟩ := ub.there b o eb hb
      exact ⟨o', hfl.1 _ _ e1⟩
/-- what the try gives to its body's exceptions -/
def Taken (K : PySem.W.Frag) (D : Addr) (th : Addr → Addr → Hp → Prop) : XK := fun cls _ H' => ∃ C, cls = .ref C ∧ ExcSub K C D ∧ ∀ ea, H' ea = none → th ea C H'
/-- the way from the raised exception to the suite -/
theorem caught_by {x : Str} {D e : Addr} {a0 : Value} {b₀ : Stmt} {suite : List Stmt} {name : Option Str} {np hpos : Pos} {H' : Hp} {B : Heap} {s' : Shared} {C : Addr} {Q : Flow → Shared → Prop} {E : Value → Shared → Prop}
    (hg : Gl X x) (hm : X.mg x = some (.ref D)) (hdb : (x == ("__debug__" : Str)) = false) (hst : X.stack = X.env :: X.outer) (hfr : X.env.frame = some X.env.locals)
    (I : Inv X pins σ H s) (hos : s'.os = s.os) (hgen : AllBare s'.gens) (hok : HOk X.prog X.w H' B) (ub : UnB (frs X.stack) H H' s.heap B s'.heap) (hfl : Heap.FlyingW B X.stack e (.ref C) a0 s'.heap) (hs : ExcSub X.K C D)
    (k : ∀ h6, Heap.FlyingW B X.stack e (.ref C) a0 h6 → s'.heap.UpToSlots h6 →
      codeAny (model X.prog X.w) (X.A.mark (some (.ref e))) (.handlers (.ref e) [.ExceptHandler none name (b₀ :: suite) hpos] X.env) (fun r s₂ => match r with
          | .ok f => (match name with
            | none => Q f s₂
            | some n => wpAny (model X.prog X.w) X.A (do bindName X.env n .none; unbindBehindTheSuite X.env n hpos) (fun _ s₃ => Q f s₃) E s₂)
          | .error x => cameBackBy (model X.prog X.w) X.A X.env E x s₂) { s' with heap := h6 }) :
    wpAny (model X.prog X.w) X.A (noteFrame (.ref e) X.env) (fun _ s₂ => wpAny (model X.prog X.w) X.A (setFlight (.ref e) none) (fun _ s₃ =>
      wpAny (model X.prog X.w) X.A (handleBy (.ref e) X.env [.ExceptHandler (some (.Name x np)) name (b₀ :: suite) hpos]) Q E s₃) E s₂) E s' := by
  have hfl' := hfl
  rw [hst] at hfl'
  refine wpAny_looks_onW (L := X.env.locals) (by rw [I.ok.frames, hst]) hfr hfl' fun h4 hh4 sm4 => ?_
  refine wpAny_landsW hh4 fun h5 hf5 sm5 => ?_
  have hf5' := hf5
  rw [← hst] at hf5'
  have I5 := landed_inv I hos hgen hok ub hfl hf5' (sm4.trans sm5)
  refine wpAny_handleBy_cons (codeAny_handlers_test ?_) (by intro z; cases z)
  have I5h := I5.hand e
  refine ld_glob I5h hg hm ?_ hdb
  obtain ⟨⟨bmB, nid, c1⟩, ⟨bmD, nid', c2, c3⟩, c4⟩ := hs
  obtain ⟨bm, N, nm, qn, bs, hdct, sn, sub, ab, col, dd, k0, k1, k2, k3, k5, oC, TC, mC⟩ := exc_mro I5.kIn c1
  obtain ⟨bm', N', nm', qn', bs', hdct', sn', sub', ab', col', dd', l0, l1, l2, l3, l5, oD, TD, mD⟩ := exc_mro I5.kIn c2
  obtain ⟨ob, hob, hobc⟩ := hf5.there
  obtain ⟨hp, gn, dr, tk, os⟩ := s'
  refine matches_own oC oD hob hobc (TD.hasType c3) (mC _ _ c4) ?_
  exact k h5 hf5' (sm4.trans sm5)
end

section
variable {X : Cx}
end
end L2

set_option Elab.async false
set_option linter.all false
set_option maxRecDepth 100000
namespace L2
open PySem PySem.Spec PyProof.Rows

/-! ### == of data of any depth -/
mutual
inductive Dat (K : PySem.W.Frag) (H : Hp) : V → PyData → Prop where
  | non : Dat K H .non .none
  | bl (b : Bool) : Dat K H (.bl b) (.bool b)
  | int (i : Int) : Dat K H (.int i) (.int i)
  | str (x : Str) : Dat K H (.str x) (.str x)
  | lst {a : Addr} {xs : List V} {ds : List PyData} (h : SqL K H a xs) (t : DatAll K H xs ds) : Dat K H (.ref a) (.list ds)
  | tup {a : Addr} {xs : List V} {ds : List PyData} (h : SqT K H a xs) (t : DatAll K H xs ds) : Dat K H (.ref a) (.tuple ds)
inductive DatAll (K : PySem.W.Frag) (H : Hp) : List V → List PyData → Prop where
  | nil : DatAll K H [] []
  | cons {x : V} {xs : List V} {d : PyData} {ds : List PyData} (h : Dat K H x d) (t : DatAll K H xs ds) : DatAll K H (x :: xs) (d :: ds)
end
section
variable {X : Cx} {pins : List (Addr × Obj)} {σ : St} {H : Hp} {s : Shared}
end
section
variable {X : Cx}
end

/-! ### the boxed rules of exceptions -/
theorem PS.nox {X : Cx} {st : Stmt} {t : TS} (h : PS X.nox st t) : PS X st t := fun pins s σ H D I hw =>
  wpAny_mono (h pins s σ H D (I.wish _) hw) (fun _ _ q => q.unwish) fun _ _ z => z.elim
section
variable {X : Cx} {e : Expr} {es : List Expr} {t : TA} {x : Str} {p pos np cpos hpos : Pos}
theorem ks_nox {st : Stmt} {t : TS} (h : QS X.nox st t) : QS X st t := ⟨PS.nox h.p⟩
theorem pass1 {P : Program} {w : World} : Passes (CX1 P w) X E0 := fun _ _ _ _ _ _ _ ⟨_, _, _, _, _, _, _, _, _, _, _, q⟩ => q.elim
theorem ke_callX {Φ : St → XK → Prop} {k : Nat} {f : Addr} {fd : FuncData} {ps : List Str} {sp : Sp} (F : FnOk X.prog X.w X.K X.mg X.base (CX1 X.prog X.w) k f fd ps sp) (hr : Room k X.A) (hm : X.mg x = some (.ref f)) (hk : PySem.W.keepIn X.K (.ref f) = true) (hb : Binds X.K fd ps []) (hx : PassesX X Φ)
    (ha : QA X (e :: es) t) (hg : X.env.kindOf x = some .globalImplicit := by kernel_rfl) (hdb : (x == ("__debug__" : Str)) = false := by kernel_rfl) (he : starEach (e :: es) X.env = (false, eval e X.env) :: starEach es X.env := by kernel_rfl) (hpl : (backTo pos (starEach es X.env)).any (·.1) = false := by kernel_rfl) :
    QE X (.Call (.Name x p) (e :: es) [] pos) (tCallX sp Φ t) := ⟨pe_callX F hr hg hm hk hb hx ha.p hdb he hpl⟩
theorem ks_raise {C : Addr} {B newId initId : String} {bmB : List Value} {E : XK} (FB : ExcBaseFacts B newId initId bmB) (hC : PySem.W.excIn X.K C bmB newId = true) (hm : X.mg x = some (.ref C)) (ha : QA X (e :: es) t)
    (hx : ∀ (pins : List (Addr × Obj)) (σ : St) (H2 : Hp) (s2 : Shared) (h' : Heap) (ea : Addr) (vs : List Value), Inv X pins σ H2 s2 → Heap.MadeExcOf s2.heap h' ea (.ref C) vs → E (.ref C) none H2 → X.xe (.ref ea) { s2 with heap := h' })
    (hg : X.env.kindOf x = some .globalImplicit := by kernel_rfl) (hc : X.calm = true := by kernel_rfl)
    (hdb : (x == ("__debug__" : Str)) = false := by kernel_rfl) (he : starEach (e :: es) X.env = (false, eval e X.env) :: starEach es X.env := by kernel_rfl) (hpl : (backTo cpos (starEach es X.env)).any (·.1) = false := by kernel_rfl) :
    QS X (.Raise (some (.Call (.Name x np) (e :: es) [] cpos)) none pos) (tRaise (.ref C) E t) := ⟨ps_raise FB hC hg hm hc ha.p hx hdb he hpl⟩
end
theorem Fun.okX {P : Program} {w : World} {K : PySem.W.Frag} {mg : Str → Option Value} {base : Heap} {x qual : Str} {st : Stmt} {f : Addr} {fd : FuncData} {N ps : List Str} {k : Nat} {sp : Sp} (F : Fun K x qual st f fd) (S : FnScope N ps (defScope st)) {rd : XK → TS} (len : ∀ vs H Q E, sp vs H Q E → vs.length = ps.length)
    (hb : ∀ (cdv : Value) (A : Around) (outer : List Env) (s : Shared) (H : Hp) (E : XK), Room k (A.deeper (envOfC qual (defScope st) s.heap.objs.size f cdv)) → QSs (cxOf (CX1 P w) P w K mg base N qual (defScope st) f cdv A outer s H E) (defBody st) (rd E))
    (hq : ∀ (vs : List V) (H : Hp) (Q : VK) (E : XK), sp vs H Q E → rd E { nx := fun _ H' => Q .non H', rt := Q } (start N vs) H) : FnOk P w K mg base (CX1 P w) (k + 1) f fd ps sp := by
  obtain ⟨oc, od, kV, doc, pm, an, cdv, ct, osl, rfl, lk, hcd⟩ := F.ex
  exact fn_of lk hcd S len fun A outer s H vs Q E hr hsp => ⟨rd E, (hb cdv A outer s H E hr).p, hq vs H Q E hsp⟩
end L2

set_option Elab.async false
set_option linter.all false
set_option maxRecDepth 100000
namespace L2
open PySem PySem.Spec PyProof.Rows PySem.Builtin.Str
/-! ### a sign, so many times -/
theorem fold_rep (c : Nat) : ∀ (n : Nat) (acc : List Nat), (List.replicate n (#[c] : Array Nat)).foldl (· ++ ·) acc.toArray = (acc ++ List.replicate n c).toArray
  | 0, acc => by simp
  | n + 1, acc => by
    rw [List.replicate_succ, List.foldl_cons]
    have e : acc.toArray ++ #[c] = (acc ++ [c]).toArray := by simp
    rw [e, fold_rep c n (acc ++ [c]), List.replicate_succ]
    simp
theorem mul_one_sign {c : Nat} {k : Int} (h0 : 0 ≤ k) : Txt.mul (txt [c]) k = txt (List.replicate k.toNat c) := by
  unfold Txt.mul
  by_cases h1 : k < 1
  · rw [if_pos h1]
    obtain rfl : k = 0 := by omega
    show Str.empty = txt []
    decide +kernel
  · rw [if_neg h1]
    by_cases h2 : k = 1
    · subst h2
      rw [if_pos (by simp)]
      rfl
    · rw [if_neg (by simp [h2, txt_len])]
      have e := fold_rep c k.toNat []
      rw [List.nil_append] at e
      show Str.mk ((List.replicate k.toNat (txt [c]).cps).foldl (· ++ ·) #[]) = _
      have e2 : (txt [c]).cps = #[c] := rfl
      rw [e2]
      exact congrArg Str.mk e
abbrev rMulS : R2 := fun x y H Q => ∃ (c : Nat) (k : Int), x = .str (txt [c]) ∧ y = .int k ∧ 0 ≤ k ∧ k ≤ 100000 ∧ Q (.str (txt (List.replicate k.toNat c))) H
theorem mulOk_one {c : Nat} {k : Int} (h0 : 0 ≤ k) (h1 : k ≤ 100000) : MulOk (txt [c]) k := by
  refine ⟨?_, fun _ _ => ?_, fun _ _ => ?_⟩
  · simp; omega
  · rw [txt_len]
    have : (1 : Int) ≤ (2 ^ 63 - 1) / k := (Int.le_ediv_iff_mul_le (by omega)).mpr (by omega)
    simp only [List.length_cons, List.length_nil]; omega
  · rw [txt_len]
    unfold tooLong
    simp only [List.length_cons, List.length_nil, Nat.one_mul, Nat.zero_add, decide_eq_false_iff_not]
    have : (100000 : Nat) ≤ sizeLine := by decide
    omega
section
variable {X : Cx}
theorem op_mulS : OpR X (binaryOp .Mult) rMulS := by
  intro pins s σ H x y v u Q I rx ry h
  obtain ⟨c, k, rfl, rfl, h0, h1, q⟩ := h
  obtain ⟨t, rfl⟩ := rx
  obtain ⟨t', rfl⟩ := ry
  refine SB.mul (mulOk_one h0 h1) fun t2 k2 => ⟨.str (txt (List.replicate k.toNat c)), H, I.tok k2, ⟨t2, by rw [mul_one_sign h0]⟩, q⟩
end
theorem mulS_go {H : Hp} {c : Nat} {k : Int} {Q : VK} (h0 : 0 ≤ k) (h1 : k ≤ 100000) (q : Q (.str (txt (List.replicate k.toNat c))) H) : rMulS (.str (txt [c])) (.int k) H Q := ⟨c, k, rfl, rfl, h0, h1, q⟩
end L2

set_option Elab.async false
set_option linter.all false
set_option maxRecDepth 100000
namespace L2
open PySem PySem.Spec PyProof.Rows

/-! ### except D as e -/
/-- an exception that was taken: an object of the class at C -/
def excO (ea C : Addr) : HO := .ext fun h => ∃ o, h.get? ea = some o ∧ o.cls = .ref C
def tTryE (K : PySem.W.Frag) (D : Addr) (i : Nat) (tb : (St → XK → Prop) → TS) (th : TS) : TS := fun Dn σ H =>
  tb (fun σ' E => σ' = σ ∧ E = Taken K D fun ea C H' => th { nx := fun σ2 H2 => Dn.nx (σ2.set i none) H2, rt := Dn.rt, bk := fun σ2 H2 => Dn.bk (σ2.set i none) H2, ct := fun σ2 H2 => Dn.ct (σ2.set i none) H2 } (σ.set i (some (.ref ea))) (upd H' ea (excO ea C))) Dn σ H
section
variable {X : Cx} {pins : List (Addr × Obj)} {σ : St} {H : Hp} {s : Shared}
theorem landed_invE {e C : Addr} {a0 : Value} {H' : Hp} {B h6 : Heap} {s' : Shared} (I : Inv X pins σ H s) (hos : s'.os = s.os) (hg : AllBare s'.gens) (hok : HOk X.prog X.w H' B) (ub : UnB (frs X.stack) H H' s.heap B s'.heap)
    (hfl0 : Heap.FlyingW B X.stack e (.ref C) a0 s'.heap) (hfl : Heap.FlyingW B X.stack e (.ref C) a0 h6) (hsm : s'.heap.UpToSlots h6) : Inv X pins σ (upd H' e (excO e C)) { s' with heap := h6 } := by
  have hn := hok.untracked hfl.2.1
  have ne : ∀ b o, s.heap.get? b = some o → b ≠ e := fun b o eb z => by
    subst z
    by_cases hb : b ∈ frs X.stack
    · obtain ⟨_, o2, e3, d3⟩ := frs_none hfl.2.2.1 hb
      obtain ⟨oe, vs, e4, _, d4, _⟩ := hfl.first
      rw [e3] at e4
      cases e4
      exact d3 _ d4
    · obtain ⟨o', e1⟩ := ub.there b o eb hb
      rw [hfl.2.1] at e1; cases e1
  refine I.call' (s' := { s' with heap := h6 }) (ch := []) hos ⟨fun b o eb n hb _ => hfl.1 _ _ (ub.keep b o eb n hb), fun b o eb n hb _ => ?_, fun b o eb n _ => by rw [upd_ne (ne b o eb)]; exact ub.free b o eb n, fun b o eb _ => ?_, fun b xs q => ?_, fun b o u q => ?_, fun b ps q => ?_⟩ (fun b o eb => ?_) hg (fun b hb => absurd hb List.not_mem_nil)
  · obtain ⟨sl, e1⟩ := ub.slot b o eb n hb
    obtain ⟨_, o2, e3, d3⟩ := frs_none hfl0.2.2.1 hb
    rw [e1] at e3
    cases e3
    obtain ⟨sl2, e4⟩ := hsm b _ e1 d3
    exact ⟨sl2, e4⟩
  · by_cases hb : b ∈ frs X.stack
    · obtain ⟨_, o2, e3, _⟩ := frs_none hfl.2.2.1 hb
      exact ⟨o2, e3⟩
    · obtain ⟨o', e1⟩ := ub.there b o eb hb
      exact ⟨o', hfl.1 _ _ e1⟩
  · have q2 := ub.tups b xs q
    rw [upd_ne (ne_of_none q2 hn)]; exact q2
  · have q2 := ub.frzs b o u q
    rw [upd_ne (ne_of_none q2 hn)]; exact q2
  · obtain ⟨more, q2⟩ := ub.tbls b ps q
    exact ⟨more, by rw [upd_ne (ne_of_none q2 hn)]; exact q2⟩
  · by_cases hb : b = e
    · subst hb
      rw [upd_same] at eb
      cases eb
      obtain ⟨oe, vs, e4, c4, d4, _⟩ := hfl.first
      exact ⟨⟨oe, e4, c4⟩, ⟨oe, e4⟩, fun h1 h2 ⟨o, q1, q2⟩ k => ⟨o, k o q1, q2⟩⟩
    · rw [upd_ne hb] at eb
      refine (hok b o eb).stay (fun c v _ q => hfl.1 c v q) (fun c q => by rw [upd_ne (ne_of_none q hn)]; exact q) fun c xs q => by rw [upd_ne (ne_of_none q hn)]; exact q
/-- the name is let go -/
theorem Inv.gone {i : Nat} {n : Str} {h' : Heap} {v : Option Value} {m : Str → Option Value} {tk : Nat} (I : Inv X pins σ H s) (hN : X.N.Nodup) (hi : X.N[i]? = some n) (hn : s.heap.Ns X.env.locals m)
    (hl : ∀ (j : Nat) (x : Str) (w : V), X.N[j]? = some x → σ[j]? = some (some w) → Vis X.env.scope x → ∃ u, RelV w u ∧ Look X.env s.heap m x u)
    (hn' : h'.Ns X.env.locals (fun x => if x = n then v else m x)) (hs : Heap.SameBut X.env.locals s.heap h') : Inv X pins (σ.set i none) H { s with heap := h', toks := tk } := by
  have cne := I.cne
  have hiσ : i < σ.length := by rw [I.len]; exact (List.getElem?_eq_some_iff.mp hi).1
  refine ⟨I.ok, I.os, I.bare, ⟨fun b o e n hb hx => ?_, fun b o e n hb hx => ?_, I.base.free, fun b o e hx => ?_, I.base.tups, I.base.frzs, I.base.tbls⟩, ⟨_, hn', fun j y v' e1 e2 e3 => ?_⟩, fun y c e => ?_, I.free, I.freeC, fun p hp => ?_, fun b ob e => ?_, by simpa using I.len⟩
  · exact (hs.2 b (Nat.ne_of_lt (Nat.lt_of_lt_of_le (Heap.lt_size e) I.ok.above))).trans (I.base.keep b o e n hb hx)
  · obtain ⟨sl, e1⟩ := I.base.slot b o e n hb hx
    exact ⟨sl, (hs.2 b (Nat.ne_of_lt (Nat.lt_of_lt_of_le (Heap.lt_size e) I.ok.above))).trans e1⟩
  · obtain ⟨o', e1⟩ := I.base.there b o e hx
    exact ⟨o', (hs.2 b (Nat.ne_of_lt (Nat.lt_of_lt_of_le (Heap.lt_size e) I.ok.above))).trans e1⟩
  · by_cases hj : j = i
    · subst hj
      rw [List.getElem?_set_self hiσ] at e2
      cases e2
    · rw [List.getElem?_set_ne (Ne.symm hj)] at e2
      obtain ⟨u', r', q⟩ := hl j y v' e1 e2 e3
      refine ⟨u', r', ?_⟩
      rcases q with ⟨k, e⟩ | ⟨k, c, e, z⟩
      · refine .inl ⟨k, ?_⟩
        have : y ≠ n := fun e => hj (nodup_ix hN e1 (e ▸ hi))
        simp [this, e]
      · exact .inr ⟨k, c, e, z.sameBut hs (cne y c e)⟩
  · obtain ⟨w', z⟩ := I.cell y c e
    exact ⟨w', z.sameBut hs (cne y c e)⟩
  · obtain ⟨e, n, ne, nf, d⟩ := I.pin p hp
    exact ⟨(hs.2 p.1 ne).trans e, n, ne, nf, d⟩
  · refine (I.hok b ob e).stay (fun c w' hc q => (hs.2 c ?_).trans q) (fun _ q => q) fun _ _ q => q
    rintro rfl
    rcases hc with rfl | hc
    · rw [I.free] at e; cases e
    · rw [I.free] at hc; cases hc
theorem ps_tryE {i : Nat} {n : Str} {body : List Stmt} {tb : (St → XK → Prop) → TS} {x : Str} {D : Addr} {b₀ : Stmt} {suite : List Stmt} {th : TS} {np hpos pos : Pos} (hN : X.N.Nodup) (hi : X.N[i]? = some n) (hk : X.env.scope.names.lookup n = some .local)
    (hg : Gl X x) (hm : X.mg x = some (.ref D)) (hdb : (x == ("__debug__" : Str)) = false) (hst : X.stack = X.env :: X.outer) (hfr : X.env.frame = some X.env.locals)
    (hb : ∀ (xe : Value → Shared → Prop) (pn : List (Addr × Obj)) (Φ : St → XK → Prop), PassesX (X.tried xe pn) Φ → PSs (X.tried xe pn) body (tb Φ))
    (hh : ∀ ea, PSs (X.hand ea) (b₀ :: suite) th) :
    PS X (.Try body [.ExceptHandler (some (.Name x np)) (some n) (b₀ :: suite) hpos] [] [] pos) (tTryE X.K D i tb th) := by
  intro pins s σ H Dn I h
  refine wpAny_Try_except ?_
  let Dh : Ends := { nx := fun σ2 H2 => Dn.nx (σ2.set i none) H2, rt := Dn.rt, bk := fun σ2 H2 => Dn.bk (σ2.set i none) H2, ct := fun σ2 H2 => Dn.ct (σ2.set i none) H2 }
  let E0 : XK := Taken X.K D fun ea C H' => th Dh (σ.set i (some (.ref ea))) (upd H' ea (excO ea C))
  let xe : Value → Shared → Prop := fun e s' => ∃ H1 s1, Inv X pins σ H1 s1 ∧ CX1 X.prog X.w X.stack H1 s1 E0 e s'
  have hP : PassesX (X.tried xe (X.pn ++ pins)) (fun σ' E => σ' = σ ∧ E = E0) := by
    rintro pins' σ' H1 s1 E e s' I1 ⟨rfl, rfl⟩ hc
    exact ⟨H1, s1, I1.untried I.ok, hc⟩
  have hbody := hb xe (X.pn ++ pins) _ hP [] s σ H Dn (I.tried xe) h
  have hcls : (X.env.scope.kind == .class || (X.env.scope.kind == .module && X.env.locals != X.env.globals)) = false := by rw [I.ok.kind]; rfl
  refine wpAny_mono hbody (fun fl s' q => ?_) fun e s' q => ?_
  · cases fl with
    | next => obtain ⟨σ', H', J, q⟩ := q; exact wpAny_execs_nil ⟨σ', H', J.untried I.ok, q⟩
    | brk => obtain ⟨σ', H', J, q⟩ := q; exact ⟨σ', H', J.untried I.ok, q⟩
    | cont => obtain ⟨σ', H', J, q⟩ := q; exact ⟨σ', H', J.untried I.ok, q⟩
    | ret u => obtain ⟨v, σ', H', J, r, q⟩ := q; exact ⟨v, σ', H', J.untried I.ok, r, q⟩
  · obtain ⟨H1, s1, I1, ea, cls, t, H2, B, rfl, hos, hgen, hfl, hok, ub, C, rfl, hsub, q⟩ := q
    have hn := hok.untracked hfl.2.1
    refine caught_by hg hm hdb hst hfr I1 hos hgen hok ub hfl hsub fun h6 hf6 sm6 => ?_
    refine codeAny_handlers_suite_as (lands_againW (s := { s' with heap := h6 }) hf6 fun h7 hf7 sm7 => ?_)
    have I7 : Inv X pins σ (upd H2 ea (excO ea C)) { s' with heap := h7 } := landed_invE I1 hos hgen hok ub hfl hf7 (sm6.trans sm7)
    refine store_ok (X := X.hand ea) (I7.hand ea) hN hi (.inl hk) (v := .ref ea) (u := .ref ea) rfl (fun s8 I8 => ?_) (.inr hk)
    refine wpAny_mono (hh ea pins s8 _ _ Dh I8 (q ea hn)) (fun fl s9 q9 => ?_) (fun _ _ z => z.elim)
    have goes : ∀ {σ' : St} {H' : Hp} {Q : Shared → Prop}, Inv (X.hand ea) pins σ' H' s9 → (∀ s10, Inv X pins (σ'.set i none) H' s10 → Q s10) →
        wpAny (model X.prog X.w) X.A (do bindName X.env n .none; unbindBehindTheSuite X.env n hpos) (fun _ s₃ => Q s₃) X.xe s9 := fun {σ' H' Q} J k => by
      have J' := J.unhand I.ok
      obtain ⟨m, hm1, hl1⟩ := id J'.loc
      exact wpAny_nameGoes_keeps hk hm1 hcls fun h' v hn' hs' => k _ (J'.gone hN hi hm1 hl1 hn' hs')
    cases fl with
    | next => obtain ⟨σ', H', J, q⟩ := q9; exact goes J fun s10 J10 => ⟨_, H', J10, q⟩
    | brk => obtain ⟨σ', H', J, q⟩ := q9; exact goes J fun s10 J10 => ⟨_, H', J10, q⟩
    | cont => obtain ⟨σ', H', J, q⟩ := q9; exact goes J fun s10 J10 => ⟨_, H', J10, q⟩
    | ret u => obtain ⟨v, σ', H', J, r, q⟩ := q9; exact goes J fun s10 J10 => ⟨v, _, H', J10, r, q⟩
end

/-! ### isinstance(e, C), e of just this class -/
theorem ans_exc {e C : Addr} : Answers (fun s => ∃ o, s.heap.get? e = some o ∧ o.cls = .ref C) (.ref e) (.ref C) true := by
  intro dep tk prog w A R s hs
  obtain ⟨h0, g, d, tt, os⟩ := s
  obtain ⟨⟨o, h1, h2⟩, hq⟩ := hs
  have LT : PySem.W.Looks (model prog w) h0 (typeOf (.ref e)) (.ref C) := h2 ▸ (PySem.W.Looks.ld h1).andThen .now
  unfold Builtin.«isinstance.nested»
  refine wpAny_bind (LT.at ?_)
  rw [if_pos (beq_self_eq_true _)]
  first
    | exact wpAny_bind (wpAny_rule (wpAny_pure (hq tt)))
    | exact wpAny_bind (wpAny_rule (hq tt))
    | exact wpAny_bind (wpAny_rule (wpAny_bind (wpAny_pure (hq tt))))
def tIsX (D : Addr) (ta : TE) : TE := fun σ H Q => ta σ H fun x H1 => ∃ ea, x = .ref ea ∧ H1 ea = some (excO ea D) ∧ Q (.bl true) H1
section
variable {X : Cx}
theorem ke_isX {e : Expr} {te : TE} {y z : Str} {D : Addr} {p p2 pos : Pos} (hm : X.mg y = none) (hv : bootBuiltins y = some (.builtin "isinstance")) (hm2 : X.mg z = some (.ref D)) (he : QE X e te)
    (hg : X.env.kindOf y = some .globalImplicit := by kernel_rfl) (hn : decide (y = "__name__") = false := by kernel_rfl) (hdb : (y == ("__debug__" : Str)) = false := by kernel_rfl)
    (hg2 : X.env.kindOf z = some .globalImplicit := by kernel_rfl) (hdb2 : (z == ("__debug__" : Str)) = false := by kernel_rfl)
    (hs1 : starEach [e, .Name z p2] X.env = (false, eval e X.env) :: starEach [.Name z p2] X.env := by kernel_rfl) (hs2 : starEach [.Name z p2] X.env = (false, eval (.Name z p2) X.env) :: starEach [] X.env := by kernel_rfl)
    (hpl : (backTo pos (starEach [.Name z p2] X.env)).any (·.1) = false := by kernel_rfl) :
    QE X (.Call (.Name y p) [e, .Name z p2] [] pos) (tIsX D te) := by
  have hR : CallR X (.builtin "isinstance") (fun xs H Q => ∃ ea, xs = [.ref ea, .ref D] ∧ H ea = some (excO ea D) ∧ Q (.bl true) H) := by
    intro pins s σ H xs us Q I r h
    obtain ⟨ea, rfl, hH, q⟩ := h
    obtain ⟨u, w', rfl, ru, rw'⟩ := vals2 r
    obtain rfl : u = Value.ref ea := ru
    obtain rfl : w' = Value.ref D := rw'
    obtain ⟨ho, _, _⟩ := (show ObjOk X.prog X.w H s.heap ea (excO ea D) from I.hok ea _ hH)
    exact call_isinstance (S := fun _ R s => (∃ o, s.heap.get? ea = some o ∧ o.cls = .ref D) ∧ ∀ tk, R (.ok (.ret (.bool true))) { s with toks := tk })
      (fun prog w A R s hs => isinstance_outer (ans_exc 0 _ prog w A R s hs) (by intro z; cases z)) ⟨ho, fun tk => ⟨.bl true, H, I.tok tk, rfl, q⟩⟩
  have hP := pe_callB (x := y) (p := p) (pos := pos) hR hg hm hv (pa_cons he.p (pa_cons (pe_glob (v := .ref D) hg2 hm2 rfl hdb2) pa_nil hs2) hs1) (of_decide_eq_false hn) hdb hs1 hpl
  refine ⟨fun pins s σ H Q I h => hP pins s σ H Q I ?_⟩
  have e : (fun x H1 => ∃ ea, [x, V.ref D] = [.ref ea, .ref D] ∧ H1 ea = some (excO ea D) ∧ Q (.bl true) H1) = fun (x : V) (H1 : Hp) => ∃ ea, x = .ref ea ∧ H1 ea = some (excO ea D) ∧ Q (.bl true) H1 := by
    funext x H1
    refine propext ⟨fun ⟨ea, e, q⟩ => ?_, fun ⟨ea, e, q⟩ => ⟨ea, by rw [e], q⟩⟩
    cases e; exact ⟨ea, rfl, q⟩
  show te σ H fun x H1 => ∃ ea, [x, V.ref D] = [.ref ea, .ref D] ∧ H1 ea = some (excO ea D) ∧ Q (.bl true) H1
  rw [e]; exact h
theorem ks_tryE {i : Nat} {n x : Str} {body : List Stmt} {tb : (St → XK → Prop) → TS} {D : Addr} {b₀ : Stmt} {suite : List Stmt} {th : TS} {np hpos pos : Pos} (hN : X.N.Nodup) (hm : X.mg x = some (.ref D))
    (hb : ∀ (xe : Value → Shared → Prop) (pn : List (Addr × Obj)) (Φ : St → XK → Prop), PassesX (X.tried xe pn) Φ → QSs (X.tried xe pn) body (tb Φ)) (hh : ∀ ea, QSs (X.hand ea) (b₀ :: suite) th)
    (hi : X.N[i]? = some n := by kernel_rfl) (hk : X.env.scope.names.lookup n = some .local := by kernel_rfl)
    (hg : X.env.kindOf x = some .globalImplicit := by kernel_rfl) (hdb : (x == ("__debug__" : Str)) = false := by kernel_rfl) (hst : X.stack = X.env :: X.outer := by kernel_rfl) (hfr : X.env.frame = some X.env.locals := by kernel_rfl) :
    QS X (.Try body [.ExceptHandler (some (.Name x np)) (some n) (b₀ :: suite) hpos] [] [] pos) (tTryE X.K D i tb th) := ⟨ps_tryE hN hi hk hg hm hdb hst hfr (fun xe pn Φ hx => (hb xe pn Φ hx).p) fun ea => (hh ea).p⟩
end
end L2

set_option Elab.async false
set_option linter.all false
set_option maxRecDepth 100000
namespace L2
open PySem PySem.Spec PyProof.Rows

/-! ### min and max of two texts -/
abbrev rMin2S : List V → Hp → VK → Prop := fun xs H Q => ∃ i j, xs = [.str (txt i), .str (txt j)] ∧ Q (.str (txt (if j < i then j else i))) H
abbrev rMax2S : List V → Hp → VK → Prop := fun xs H Q => ∃ i j, xs = [.str (txt i), .str (txt j)] ∧ Q (.str (txt (if i < j then j else i))) H
def twoOf (a b : List Nat) (i : Nat) : List Nat := if i = 0 then a else b
theorem two_at {a b : List Nat} {t u : Tok} {i : Nat} {v : Value} (h : (#[Value.str (txt a) t, Value.str (txt b) u])[i]? = some v) : ∃ t', v = .str (txt (twoOf a b i)) t' := by
  match i, h with
  | 0, h => simp at h; exact ⟨t, h.symm⟩
  | 1, h => simp at h; exact ⟨u, h.symm⟩
  | _ + 2, h => simp at h
section
variable {prog : Program} {w : World} {A : Around} {E : Value → Shared → Prop} {s : Shared}
theorem min_two_txts {a b : List Nat} {t u : Tok} {Q : Value → Shared → Prop} (hh : A.handled = none)
    (h : ∀ h' tk, (∀ c o, s.heap.get? c = some o → h'.get? c = some o) → Q (if b < a then .str (txt b) u else .str (txt a) t) { s with heap := h', toks := tk }) :
    wpAny (model prog w) A (call (.builtin "min") [.str (txt a) t, .str (txt b) u]) Q E s := by
  have hT : (s.heap.push { cls := .type "tuple", data := .seq #[.str (txt a) t, .str (txt b) u] }).IsTuple s.heap.objs.size #[.str (txt a) t, .str (txt b) u] := ⟨_, Heap.get?_push_size _ rfl, rfl, 0, rfl⟩
  refine call_min_two (wpAny_pyIter_tuple hT ?_)
  have hsz : (s.heap.push { cls := .type "tuple", data := .seq #[Value.str (txt a) t, .str (txt b) u] }).objs.size = s.heap.objs.size + 1 := Heap.size_push ..
  have cmp : CmpOf prog w A.in1 .Lt (fun i v => (#[Value.str (txt a) t, .str (txt b) u])[i]? = some v) (fun i j => decide (twoOf a b i < twoOf a b j)) := fun i j vi vj s' Q' E' hi hj hq => by
    obtain ⟨t1, rfl⟩ := two_at hi
    obtain ⟨t2, rfl⟩ := two_at hj
    exact (lt_str (by rw [codes_txt, codes_txt]; exact hq) : wpAny (model prog w) A.in1 (compareOp .Lt (.str (txt (twoOf a b i)) t1) (.str (txt (twoOf a b j)) t2)) Q' E' s')
  refine ⟨_, [_, s.heap.objs.size], [_], _, _, _, _, rfl, Walks.tuple (A := A.in1) hh _ s.heap.objs.size (by rw [hsz]; exact Nat.ne_of_lt (Nat.lt_succ_self _)) #[.str (txt a) t, .str (txt b) u],
    ⟨⟨_, Heap.get?_push_size _ rfl, rfl, rfl⟩, hT.push _⟩, fun c hc => ?_, Nat.zero_lt_two, cmp, fun v h' tk hP hk => ?_⟩
  · show c < ((s.heap.push _).push _).objs.size
    rw [Heap.size_push, hsz]
    rcases List.mem_cons.mp hc with z | z
    · rw [z, hsz]; exact Nat.lt_succ_self _
    · rw [List.mem_singleton.mp z]; exact Nat.lt_succ_of_lt (Nat.lt_succ_self _)
  · have old : ∀ c o, s.heap.get? c = some o → h'.get? c = some o := fun c o e => by
      refine hk c o (fun hm => ?_) (Heap.get?_push_of_some _ (Heap.get?_push_of_some _ e))
      have lt := Heap.lt_size e
      rw [List.mem_singleton.mp hm, hsz] at lt
      exact absurd (Nat.lt_of_succ_lt lt) (Nat.lt_irrefl _)
    have fin := h h' tk old
    have hv : v = if b < a then Value.str (txt b) u else Value.str (txt a) t := by
      have hP' : (#[Value.str (txt a) t, .str (txt b) u])[argBest (fun i j => decide (twoOf a b i < twoOf a b j)) 1]? = some v := hP
      by_cases hba : b < a
      · have e : argBest (fun i j => decide (twoOf a b i < twoOf a b j)) 1 = 1 := by simp [argBest, twoOf, hba]
        rw [e] at hP'; rw [if_pos hba]; simpa using hP'.symm
      · have e : argBest (fun i j => decide (twoOf a b i < twoOf a b j)) 1 = 0 := by simp [argBest, twoOf, hba]
        rw [e] at hP'; rw [if_neg hba]; simpa using hP'.symm
    rw [hv]; exact fin
theorem max_two_txts {a b : List Nat} {t u : Tok} {Q : Value → Shared → Prop} (hh : A.handled = none)
    (h : ∀ h' tk, (∀ c o, s.heap.get? c = some o → h'.get? c = some o) → Q (if a < b then .str (txt b) u else .str (txt a) t) { s with heap := h', toks := tk }) :
    wpAny (model prog w) A (call (.builtin "max") [.str (txt a) t, .str (txt b) u]) Q E s := by
  have hT : (s.heap.push { cls := .type "tuple", data := .seq #[.str (txt a) t, .str (txt b) u] }).IsTuple s.heap.objs.size #[.str (txt a) t, .str (txt b) u] := ⟨_, Heap.get?_push_size _ rfl, rfl, 0, rfl⟩
  refine call_max_two (wpAny_pyIter_tuple hT ?_)
  have hsz : (s.heap.push { cls := .type "tuple", data := .seq #[Value.str (txt a) t, .str (txt b) u] }).objs.size = s.heap.objs.size + 1 := Heap.size_push ..
  have cmp : CmpOf prog w A.in1 .Gt (fun i v => (#[Value.str (txt a) t, .str (txt b) u])[i]? = some v) (fun i j => decide (twoOf a b j < twoOf a b i)) := fun i j vi vj s' Q' E' hi hj hq => by
    obtain ⟨t1, rfl⟩ := two_at hi
    obtain ⟨t2, rfl⟩ := two_at hj
    exact (PySem.P.gt_str (by rw [codes_txt, codes_txt]; exact hq) : wpAny (model prog w) A.in1 (compareOp .Gt (.str (txt (twoOf a b i)) t1) (.str (txt (twoOf a b j)) t2)) Q' E' s')
  refine ⟨_, [_, s.heap.objs.size], [_], _, _, _, _, rfl, Walks.tuple (A := A.in1) hh _ s.heap.objs.size (by rw [hsz]; exact Nat.ne_of_lt (Nat.lt_succ_self _)) #[.str (txt a) t, .str (txt b) u],
    ⟨⟨_, Heap.get?_push_size _ rfl, rfl, rfl⟩, hT.push _⟩, fun c hc => ?_, Nat.zero_lt_two, cmp, fun v h' tk hP hk => ?_⟩
  · show c < ((s.heap.push _).push _).objs.size
    rw [Heap.size_push, hsz]
    rcases List.mem_cons.mp hc with z | z
    · rw [z, hsz]; exact Nat.lt_succ_self _
    · rw [List.mem_singleton.mp z]; exact Nat.lt_succ_of_lt (Nat.lt_succ_self _)
  · have old : ∀ c o, s.heap.get? c = some o → h'.get? c = some o := fun c o e => by
      refine hk c o (fun hm => ?_) (Heap.get?_push_of_some _ (Heap.get?_push_of_some _ e))
      have lt := Heap.lt_size e
      rw [List.mem_singleton.mp hm, hsz] at lt
      exact absurd (Nat.lt_of_succ_lt lt) (Nat.lt_irrefl _)
    have fin := h h' tk old
    have hv : v = if a < b then Value.str (txt b) u else Value.str (txt a) t := by
      have hP' : (#[Value.str (txt a) t, .str (txt b) u])[argBest (fun i j => decide (twoOf a b j < twoOf a b i)) 1]? = some v := hP
      by_cases hba : a < b
      · have e : argBest (fun i j => decide (twoOf a b j < twoOf a b i)) 1 = 1 := by simp [argBest, twoOf, hba]
        rw [e] at hP'; rw [if_pos hba]; simpa using hP'.symm
      · have e : argBest (fun i j => decide (twoOf a b j < twoOf a b i)) 1 = 0 := by simp [argBest, twoOf, hba]
        rw [e] at hP'; rw [if_neg hba]; simpa using hP'.symm
    rw [hv]; exact fin
end
section
variable {X : Cx}
theorem call_min2S (hc : X.calm = true) : CallR X (.builtin "min") rMin2S := by
  intro pins s σ H xs us Q I r h
  obtain ⟨i, j, rfl, q⟩ := h
  obtain ⟨u, w', rfl, ⟨t, rfl⟩, ⟨t', rfl⟩⟩ := vals2 r
  refine min_two_txts (I.ok.hd hc) fun h' tk k => ⟨_, H, I.kept k, ?_, q⟩
  by_cases hj : j < i
  · rw [if_pos hj, if_pos hj]; exact ⟨_, rfl⟩
  · rw [if_neg hj, if_neg hj]; exact ⟨_, rfl⟩
theorem call_max2S (hc : X.calm = true) : CallR X (.builtin "max") rMax2S := by
  intro pins s σ H xs us Q I r h
  obtain ⟨i, j, rfl, q⟩ := h
  obtain ⟨u, w', rfl, ⟨t, rfl⟩, ⟨t', rfl⟩⟩ := vals2 r
  refine max_two_txts (I.ok.hd hc) fun h' tk k => ⟨_, H, I.kept k, ?_, q⟩
  by_cases hj : i < j
  · rw [if_pos hj, if_pos hj]; exact ⟨_, rfl⟩
  · rw [if_neg hj, if_neg hj]; exact ⟨_, rfl⟩
end
end L2

set_option Elab.async false
set_option linter.all false
set_option maxRecDepth 100000
namespace L2
open PySem PySem.Spec PyProof.Rows

/-! ### range(lo, hi, step), step above 0 -/
def rngN (lo hi st : Int) : Nat := (if lo < hi then (hi - lo - 1) / st + 1 else 0).toNat
theorem rangeSize_pos {a b c : Int} (h : 0 < c) : Builtin.Range.rangeSize a b c = if a < b then (b - a - 1) / c + 1 else 0 := by
  unfold Builtin.Range.rangeSize
  rw [if_pos h]
theorem rngN_cast {a b c : Int} (h : 0 < c) : ((rngN a b c : Nat) : Int) = Builtin.Range.rangeSize a b c := by
  rw [rangeSize_pos h]
  unfold rngN
  split
  · have := Int.ediv_nonneg (a := b - a - 1) (b := c) (by omega) (by omega)
    omega
  · rfl
theorem small_pos {a b c : Int} (h0 : 0 ≤ a) (h1 : a ≤ 1000000) (h2 : 0 ≤ b) (h3 : b ≤ 1000000) (h4 : 0 < c) (h5 : c ≤ 1000000) : Builtin.Range.small a b c = true := by
  unfold Builtin.Range.small
  rw [rangeSize_pos h4]
  have hr : 0 ≤ (if a < b then (b - a - 1) / c + 1 else 0) ∧ (if a < b then (b - a - 1) / c + 1 else 0) ≤ 1000001 := by
    split
    · have := Int.ediv_nonneg (a := b - a - 1) (b := c) (by omega) (by omega)
      have h6 : (b - a - 1) / c ≤ b - a - 1 := Int.ediv_le_self _ (by omega)
      omega
    · omega
  generalize (if a < b then (b - a - 1) / c + 1 else 0) = z at hr
  rw [if_pos h4]
  unfold Builtin.Range.rangeFitsLong
  simp only [Bool.and_eq_true, Bool.or_eq_true, decide_eq_true_eq]
  omega
section
variable {X : Cx} {tg : Expr}
/-! ### x or y, x a text or None -/
end
end L2

set_option Elab.async false
set_option linter.all false
set_option maxRecDepth 100000
namespace L2
open PySem PySem.Spec PyProof.Rows
variable {X : Cx}
/-! ### n.bit_length() -/
end L2

set_option Elab.async false
set_option linter.all false
set_option maxRecDepth 100000
namespace L2
open PySem PySem.Spec PyProof.Rows
section
variable {X : Cx}
/-! ### list(range(lo, hi, step)), step above 0 -/
def tListR3 (ta : TA) : TE := fun σ H Q => ta σ H fun vs H1 => ∃ i j k : Int, vs = [.int i, .int j, .int k] ∧ (0 ≤ i ∧ i ≤ 1000000 ∧ 0 ≤ j ∧ j ≤ 1000000 ∧ 0 < k ∧ k ≤ 1000000) ∧ ∀ p, H1 p = none → Q (.ref p) (upd H1 p (.lst ((List.range (rngN i j k)).map fun n => V.int (i + (n : Nat) * k))))
theorem rngN_le {i j k : Int} (h : 0 < k) (h0 : 0 ≤ i) (h3 : j ≤ 1000000) : rngN i j k ≤ 1000000 := by
  unfold rngN
  split
  · have h6 : (j - i - 1) / k ≤ j - i - 1 := Int.ediv_le_self _ (by omega)
    omega
  · exact Nat.zero_le _
theorem pe_listR3 (hc : X.calm = true) {a b c : Expr} {ta : TA} {p pos p2 pos2 : Pos} (hgl : Gl X "list") (hml : X.mg "list" = none) (hg : Gl X "range") (hm : X.mg "range" = none) (ha : PA X [a, b, c] ta)
    (hs : starEach [a, b, c] X.env = (false, eval a X.env) :: starEach [b, c] X.env) (hs2 : ((backTo pos2 (starEach [b, c] X.env)).any fun x => x.fst) = false)
    (he : starEach [.Call (.Name "range" p2) [a, b, c] [] pos2] X.env = (false, eval (.Call (.Name "range" p2) [a, b, c] [] pos2) X.env) :: starEach [] X.env) (hpl : (backTo pos (starEach [] X.env)).any (·.1) = false) :
    PE X (.Call (.Name "list" p) [.Call (.Name "range" p2) [a, b, c] [] pos2] [] pos) (tListR3 ta) := by
  intro pins s σ H Q I h
  refine wpAny_Call_Name_kw (ld_blt I hgl hml PyProof.Rows.Boot.«list» ?_ (by decide) (by decide))
  refine PyProof.Rows.callWith_type1 ?_ he hpl
  rw [he]
  refine Calls.spliced_cons ?_
  refine Call_ (ld_blt I hg hm boot_range (PyProof.Rows.callWith_type1 (thn (ha pos2 pins s σ H _ I h) fun us s1 ⟨vs, H1, I1, r1, q1⟩ => ?_) hs hs2))
  obtain ⟨i, j, k, e, ⟨q1, q2, q3, q4, q5, q6⟩, q⟩ := q1
  subst e
  cases r1 with
  | cons r rr =>
    cases rr with
    | cons r' rr =>
      cases rr with
      | cons r2 rr =>
        cases rr
        obtain ⟨t, rfl⟩ := r
        obtain ⟨t', rfl⟩ := r'
        obtain ⟨t2, rfl⟩ := r2
        refine call_range_3 (by omega) ?_ (.inl ?_)
        · refine Calls.spliced_nil ?_
          have I2 : Inv X pins σ H1 { s1 with heap := s1.heap.push { cls := .type "range", data := .fields #[.int i t, .int j t', .int k t2] } } := I1.kept (t' := s1.toks) fun b o e => Heap.get?_push_of_some _ e
          refine call_list_range (n := rngN i j k) (I2.ok.hd hc) (IsRange.new ..) (small_pos q1 q2 q3 q4 q5 q6) (rngN_cast q5).symm (Nat.le_trans (rngN_le q5 q1 q4) (by decide)) fun h' tk acc c' hk ho hI => ?_
          obtain ⟨hsz, hit⟩ := hI
          have hv : Vals ((List.range (rngN i j k)).map fun n => V.int (i + (n : Nat) * k)) acc.toList := by
            have gen : ∀ (m : Nat) (o : Nat) (us : List Value), us.length = m → (∀ (x : Nat) v, us[x]? = some v → ∃ t, v = Value.int (i + ((o + x : Nat) : Int) * k) t) → Vals ((List.range' o m).map fun (n : Nat) => V.int (i + (n : Int) * k)) us := by
              intro m
              induction m with
              | zero => intro o us h1 _; have : us = [] := List.length_eq_zero_iff.mp h1; subst this; exact .nil
              | succ m ih =>
                intro o us h1 h2
                cases us with
                | nil => simp at h1
                | cons v us =>
                  obtain ⟨t, e⟩ := h2 0 v (by simp)
                  rw [List.range'_succ, List.map_cons]
                  refine .cons ⟨t, by simpa using e⟩ (ih (o + 1) us (by simpa using h1) fun x w hx => ?_)
                  have := h2 (x + 1) w (by simpa using hx)
                  rwa [show o + 1 + x = o + (x + 1) by omega]
            have := gen (rngN i j k) 0 acc.toList (by rw [Array.length_toList, hsz]) fun x v hx => by simpa using hit x v (by simpa using hx)
            rwa [← List.range_eq_range'] at this
          refine ⟨.ref _, _, I2.laid (t' := tk) (o := .lst ((List.range (rngN i j k)).map fun n => V.int (i + (n : Nat) * k))) hk (Nat.le_refl _) ⟨?_, acc.toList, c', hv, by simpa using ho⟩, rfl, q _ (I2.hok.fresh (Nat.le_refl _))⟩
          rw [List.length_map, List.length_range, sizeLine_eq]
          have := rngN_le q5 q1 q4
          omega
        · unfold Builtin.divisionGoesByPylong
          have : ¬ (if (k == 0) = true then 0 else k.natAbs.log2 / 30 + 1) > 300 := by
            split
            · omega
            · have h1 : k.natAbs.log2 < 64 := by
                rw [Nat.log2_lt (by omega)]
                have : k.natAbs ≤ 1000000 := by omega
                exact Nat.lt_of_le_of_lt this (by decide)
              omega
          show (decide ((if (k == 0) = true then 0 else k.natAbs.log2 / 30 + 1) > 300) && _) = false
          rw [decide_eq_false this]
          rfl
theorem ke_listR3 (hc : X.calm = true) {a b c : Expr} {p pos p2 pos2 : Pos} {ta : TA} (hml : X.mg "list" = none) (hm : X.mg "range" = none) (ha : QA X [a, b, c] ta) (hgl : X.env.kindOf "list" = some .globalImplicit := by kernel_rfl) (hg : X.env.kindOf "range" = some .globalImplicit := by kernel_rfl)
    (hs : starEach [a, b, c] X.env = (false, eval a X.env) :: starEach [b, c] X.env := by kernel_rfl) (hs2 : ((backTo pos2 (starEach [b, c] X.env)).any fun x => x.fst) = false := by kernel_rfl)
    (he : starEach [.Call (.Name "range" p2) [a, b, c] [] pos2] X.env = (false, eval (.Call (.Name "range" p2) [a, b, c] [] pos2) X.env) :: starEach [] X.env := by kernel_rfl) (hpl : (backTo pos (starEach [] X.env)).any (·.1) = false := by kernel_rfl) :
    QE X (.Call (.Name "list" p) [.Call (.Name "range" p2) [a, b, c] [] pos2] [] pos) (tListR3 ta) := ⟨pe_listR3 hc hgl hml hg hm ha.p hs hs2 he hpl⟩
end
theorem Same.tup {K : PySem.W.Frag} {H H' : Hp} {a : Addr} {xs : List V} (e : Same H H') (h : SqT K H a xs) : SqT K H' a xs := by
  rcases h with (h | ⟨o, h⟩) | h
  · exact .inl (.inl (e _ _ h))
  · exact .inl (.inr ⟨o, e _ _ h⟩)
  · exact .inr h
/-! ### a step with the rest folded -/
theorem seq_any {A C : TS} {D : Ends} {σ : St} {H : Hp} (h : ∀ c : St → Hp → Prop, (∀ σ' H', C D σ' H' → c σ' H') → A { D with nx := c } σ H) : tSeq A C D σ H := h _ fun _ _ z => z
theorem seq_set {te : TE} {i : Nat} {C : TS} {D : Ends} {σ : St} {H : Hp} (h : ∀ c : V → Hp → Prop, (∀ x H1, C D (σ.set i (some x)) H1 → c x H1) → te σ H c) : tSeq (tAsg te (gName i)) C D σ H := h _ fun _ _ z => z
theorem slTo_go {H : Hp} {l : List Nat} {i : Int} {Q : VK} (hz : l.length ≤ 100000) (h0 : 0 ≤ i) (h1 : i ≤ l.length) (q : Q (.str (txt (l.take i.toNat))) H) : rSlS (.str (txt l)) none (some i) H Q :=
  slS_go hz (by rw [cutL_to h0 (by omega)]; exact q)
/-- if name == k: .. -/
theorem way_if {j : Nat} {B C : TS} {D : Ends} {σ : St} {H : Hp} {way k : Int} (h : σ[j]? = some (some (.int way))) (h1 : way = k → ∀ c : St → Hp → Prop, (∀ σ' H', C D σ' H' → c σ' H') → B { D with nx := c } σ H) (h2 : way ≠ k → C D σ H) :
    tSeq (tIfS (tTest (tOp rEq (tVar j) (tC (.int k)))) B tNext) C D σ H := by
  refine ⟨.int way, h, rfl, decide (V.int way = V.int k), rfl, ?_⟩
  by_cases e : way = k
  · rw [decide_eq_true (show V.int way = V.int k by rw [e])]
    exact h1 e _ fun _ _ z => z
  · rw [decide_eq_false (fun z => e (V.int.inj z))]
    exact h2 e
/-- [e for x in xs if t], xs the list at a -/
theorem comp_lst {K : PySem.W.Frag} {a : Addr} {xs : List V} {σ : St} {fs : List Nat} {tt : TT} {te : TE} {H : Hp} {Q : VK} (Pv : Nat → List V → Hp → Prop) (h0 : Pv 0 [] H) (hl : ∀ i ys H, i ≤ xs.length → Pv i ys H → SqL K H a xs ∧ ys.length ≤ i) (hn : xs.length ≤ sizeLine)
    (hs : ∀ i x ys H, xs[i]? = some x → Pv i ys H → ∀ R : List V → Hp → Prop, (∀ ys' H', Pv (i + 1) ys' H' → R ys' H') → tt (some x :: compSt fs σ) H fun b H2 => if b = true then te (some x :: compSt fs σ) H2 fun y H3 => R (ys ++ [y]) H3 else R ys H2)
    (hd : ∀ ys H, Pv xs.length ys H → ∀ p, H p = none → Q (.ref p) (upd H p (.lst ys))) :
    ∃ W : Nat → Nat → List V → Hp → Prop, (∃ m, W 0 m [] H) ∧ ∀ i m ys H, W i m ys H → ys.length ≤ sizeLine ∧
      (((Itl K a).stop i H ∧ ∀ p, H p = none → Q (.ref p) (upd H p (.lst ys))) ∨
       ((Itl K a).go i H ∧ ys.length < sizeLine ∧ ∀ x H', (Itl K a).yld i H x H' → tt (some x :: compSt fs σ) H' fun b H2 => if b = true then te (some x :: compSt fs σ) H2 fun y H3 => ∃ m', m' < m ∧ W (i + 1) m' (ys ++ [y]) H3 else ∃ m', m' < m ∧ W (i + 1) m' ys H2)) := by
  refine ⟨fun i m ys H => m = xs.length - i ∧ i ≤ xs.length ∧ Pv i ys H, ⟨xs.length, by simp, Nat.zero_le _, h0⟩, ?_⟩
  rintro i m ys H ⟨rfl, hi, p⟩
  obtain ⟨hq, hle⟩ := hl i ys H hi p
  refine ⟨by omega, ?_⟩
  by_cases hlt : i < xs.length
  · refine .inr ⟨⟨xs, xs[i], hq, by simp [hlt]⟩, by omega, fun x H' y => ?_⟩
    obtain ⟨e, y⟩ := y
    subst e
    exact hs i x ys _ (y xs hq) p (fun ys' H' => ∃ m', m' < xs.length - i ∧ m' = xs.length - (i + 1) ∧ i + 1 ≤ xs.length ∧ Pv (i + 1) ys' H') fun ys' H' q => ⟨xs.length - (i + 1), by omega, rfl, hlt, q⟩
  · have e : i = xs.length := by omega
    subst e
    exact .inl ⟨⟨xs, hq, Nat.le_refl _⟩, hd ys H p⟩
theorem comp_l {K : PySem.W.Frag} {tl : TE} {a : Addr} {xs : List V} {σ : St} {fs : List Nat} {tt : TT} {te : TE} {H : Hp} {Q : VK} (ha : ∀ Q : VK, Q (.ref a) H → tl σ H Q) (hq : SqL K H a xs) (Pv : Nat → List V → Hp → Prop) (h0 : Pv 0 [] H) (hl : ∀ i ys H, i ≤ xs.length → Pv i ys H → SqL K H a xs ∧ ys.length ≤ i) (hn : xs.length ≤ sizeLine)
    (hs : ∀ i x ys H, xs[i]? = some x → Pv i ys H → ∀ R : List V → Hp → Prop, (∀ ys' H', Pv (i + 1) ys' H' → R ys' H') → tt (some x :: compSt fs σ) H fun b H2 => if b = true then te (some x :: compSt fs σ) H2 fun y H3 => R (ys ++ [y]) H3 else R ys H2)
    (hd : ∀ ys H, Pv xs.length ys H → ∀ p, H p = none → Q (.ref p) (upd H p (.lst ys))) : tComp (iList K tl) fs tt te σ H Q := ha _ ⟨a, rfl, ⟨xs, hq⟩, comp_lst Pv h0 hl hn hs hd⟩
end L2

/-! marks as lists of codes: the mathematics -/
namespace MM
/-- the value of the first n letters, noughts behind -/
def val (K : Nat) : List Nat → Nat → Nat
  | _, 0 => 0
  | [], _ + 1 => 0
  | c :: m, n + 1 => (c - 97) * K ^ n + val K m n
/-- letters of K -/
def Ls (K : Nat) (m : List Nat) : Prop := ∀ c ∈ m, 97 ≤ c ∧ c < 97 + K
/-- no a at the end -/
def Na (m : List Nat) : Prop := ∀ c, m.getLast? = some c → c ≠ 97
/-- a mark -/
structure Mark (K : Nat) (m : List Nat) : Prop where
  ls : Ls K m
  na : Na m
  ne : m ≠ []
theorem Ls.tail {K c : Nat} {m : List Nat} (h : Ls K (c :: m)) : Ls K m := fun x hx => h x (List.mem_cons_of_mem _ hx)
theorem Ls.head {K c : Nat} {m : List Nat} (h : Ls K (c :: m)) : 97 ≤ c ∧ c < 97 + K := h c List.mem_cons_self
theorem Ls.nil (K : Nat) : Ls K [] := fun _ h => nomatch h
theorem Ls.app {K : Nat} {a b : List Nat} (h : Ls K a) (h' : Ls K b) : Ls K (a ++ b) := fun c hc => (List.mem_append.mp hc).elim (h c) (h' c)
theorem Ls.mono {K L : Nat} {m : List Nat} (h : Ls K m) (hl : K ≤ L) : Ls L m := fun c hc => ⟨(h c hc).1, by have := (h c hc).2; omega⟩
theorem Ls.sub {K : Nat} {a b : List Nat} (h : Ls K b) (s : ∀ c ∈ a, c ∈ b) : Ls K a := fun c hc => h c (s c hc)
theorem Na.nil : Na [] := fun c h => by simp at h
theorem Na.tail {c : Nat} {m : List Nat} (h : Na (c :: m)) : Na m := fun x hx => by
  cases m with
  | nil => simp at hx
  | cons d r => exact h x (by rw [List.getLast?_cons_cons]; exact hx)
theorem Na.app {a b : List Nat} (h : Na b) (hb : b ≠ []) : Na (a ++ b) := fun c hc => by
  rw [List.getLast?_append] at hc
  cases e : b.getLast? with
  | none => exact absurd (List.getLast?_eq_none_iff.mp e) hb
  | some d => rw [e] at hc; exact h c (by rw [e]; exact hc)
theorem Na.one {c : Nat} (h : c ≠ 97) : Na [c] := fun d hd => by simp at hd; omega
theorem val_zero (K : Nat) (m : List Nat) : val K m 0 = 0 := by cases m <;> rfl
theorem val_nil (K n : Nat) : val K [] n = 0 := by cases n <;> rfl
theorem val_cons (K c n : Nat) (m : List Nat) : val K (c :: m) (n + 1) = (c - 97) * K ^ n + val K m n := rfl
theorem val_lt {K : Nat} (hK : 0 < K) : ∀ {m : List Nat} (n : Nat), Ls K m → val K m n < K ^ n
  | m, 0, _ => by rw [val_zero]; exact Nat.one_pos
  | [], n + 1, _ => by rw [val_nil]; exact Nat.pow_pos hK
  | c :: m, n + 1, h => by
    have ih := val_lt hK n h.tail
    have hc := h.head
    rw [val_cons, Nat.pow_succ]
    have h1 : (c - 97) * K ^ n + K ^ n ≤ K ^ n * K := by
      have : (c - 97 + 1) * K ^ n ≤ K * K ^ n := Nat.mul_le_mul_right _ (by omega)
      rw [Nat.add_mul, Nat.one_mul, Nat.mul_comm K] at this
      exact this
    omega
theorem val_pos {K : Nat} (hK : 0 < K) : ∀ {m : List Nat} (n : Nat), Ls K m → Na m → m ≠ [] → m.length ≤ n → 0 < val K m n
  | [], _, _, _, h, _ => absurd rfl h
  | c :: m, 0, _, _, _, h => by simp at h
  | [c], n + 1, h, hn, _, _ => by
    have h1 := h.head
    have h2 := hn c (by simp)
    rw [val_cons, val_nil]
    have : 0 < (c - 97) * K ^ n := Nat.mul_pos (by omega) (Nat.pow_pos hK)
    omega
  | c :: d :: m, n + 1, h, hn, _, hl => by
    have := val_pos hK n h.tail hn.tail (List.cons_ne_nil _ _) (by simpa using hl)
    rw [val_cons]; omega
theorem lt_parts {a b x y P : Nat} (hx : x < P) (hy : y < P) : a * P + x < b * P + y ↔ a < b ∨ a = b ∧ x < y := by
  constructor
  · intro h
    rcases Nat.lt_trichotomy a b with g | g | g
    · exact .inl g
    · subst g; exact .inr ⟨rfl, by omega⟩
    · have : (b + 1) * P ≤ a * P := Nat.mul_le_mul_right _ g
      rw [Nat.add_mul] at this; omega
  · rintro (g | ⟨rfl, g⟩)
    · have : (a + 1) * P ≤ b * P := Nat.mul_le_mul_right _ g
      rw [Nat.add_mul] at this; omega
    · omega
theorem eq_parts {a b x y P : Nat} (hx : x < P) (hy : y < P) : a * P + x = b * P + y ↔ a = b ∧ x = y := by
  constructor
  · intro h
    rcases Nat.lt_trichotomy a b with g | g | g
    · have : (a + 1) * P ≤ b * P := Nat.mul_le_mul_right _ g
      rw [Nat.add_mul] at this; omega
    · subst g; exact ⟨rfl, by omega⟩
    · have : (b + 1) * P ≤ a * P := Nat.mul_le_mul_right _ g
      rw [Nat.add_mul] at this; omega
  · rintro ⟨rfl, rfl⟩; rfl
theorem sub97 {c d : Nat} (hc : 97 ≤ c) (hd : 97 ≤ d) : (c - 97 < d - 97 ↔ c < d) ∧ (c - 97 = d - 97 ↔ c = d) := ⟨by omega, by omega⟩
/-- two marks' order is their values' at a length that both have -/
theorem lt_val {K : Nat} (hK : 0 < K) : ∀ {a b : List Nat} (n : Nat), Ls K a → Ls K b → Na a → Na b → a.length ≤ n → b.length ≤ n → (a < b ↔ val K a n < val K b n)
  | [], [], n, _, _, _, _, _, _ => by rw [val_nil]; simp
  | [], c :: b, n, _, hb, _, nb, _, lb => by
    rw [val_nil]
    have := val_pos hK n hb nb (List.cons_ne_nil _ _) lb
    simp [this]
  | c :: a, [], n, _, _, _, _, _, _ => by rw [val_nil]; simp
  | c :: a, d :: b, 0, _, _, _, _, la, _ => by simp at la
  | c :: a, d :: b, n + 1, ha, hb, na, nb, la, lb => by
    have ih := lt_val hK n ha.tail hb.tail na.tail nb.tail (by simpa using la) (by simpa using lb)
    rw [List.cons_lt_cons_iff, val_cons, val_cons, lt_parts (val_lt hK n ha.tail) (val_lt hK n hb.tail), (sub97 ha.head.1 hb.head.1).1, (sub97 ha.head.1 hb.head.1).2, ih]
/-- low ahead of a mark of just n letters -/
theorem low_val {K : Nat} (hK : 0 < K) : ∀ {l x : List Nat} (n : Nat), Ls K l → Ls K x → Na x → x.length = n → (l < x ↔ val K l n < val K x n)
  | l, [], n, _, _, _, e => by
    obtain rfl : n = 0 := by simpa using e.symm
    rw [val_zero, val_zero]; simp
  | [], c :: x, n, _, hx, nx, e => by
    rw [val_nil]
    have := val_pos hK n hx nx (List.cons_ne_nil _ _) (Nat.le_of_eq e)
    simp [this]
  | d :: l, c :: x, 0, _, _, _, e => by simp at e
  | d :: l, c :: x, n + 1, hl, hx, nx, e => by
    have ih := low_val hK n hl.tail hx.tail nx.tail (by simpa using e)
    rw [List.cons_lt_cons_iff, val_cons, val_cons, lt_parts (val_lt hK n hl.tail) (val_lt hK n hx.tail), (sub97 hl.head.1 hx.head.1).1, (sub97 hl.head.1 hx.head.1).2, ih]
/-- a text of just n letters ahead of high -/
theorem high_val {K : Nat} (hK : 0 < K) : ∀ {x h : List Nat} (n : Nat), Ls K h → Ls K x → Na h → x.length = n → (x < h ↔ val K x n < val K h n ∨ (val K x n = val K h n ∧ n < h.length))
  | [], h, n, _, _, _, e => by
    obtain rfl : n = 0 := by simpa using e.symm
    rw [val_zero, val_zero]
    cases h <;> simp
  | c :: x, [], n, _, _, _, _ => by rw [val_nil]; simp
  | c :: x, d :: h, 0, _, _, _, e => by simp at e
  | c :: x, d :: h, n + 1, hh, hx, nh, e => by
    have ih := high_val hK n hh.tail hx.tail nh.tail (by simpa using e)
    have v1 := val_lt hK n hx.tail
    have v2 := val_lt hK n hh.tail
    rw [List.cons_lt_cons_iff, val_cons, val_cons, lt_parts v1 v2, eq_parts v1 v2, (sub97 hx.head.1 hh.head.1).1, (sub97 hx.head.1 hh.head.1).2, ih, List.length_cons, Nat.add_lt_add_iff_right]
    constructor
    · rintro (g | ⟨g, g' | g'⟩)
      · exact .inl (.inl g)
      · exact .inl (.inr ⟨g, g'⟩)
      · exact .inr ⟨⟨g, g'.1⟩, g'.2⟩
    · rintro ((g | g) | ⟨⟨g, g'⟩, g2⟩)
      · exact .inl g
      · exact .inr ⟨g.1, .inl g.2⟩
      · exact .inr ⟨g, .inr ⟨g', g2⟩⟩
/-- the loop that reads a mark: one place more -/
def fig (m : List Nat) (i : Nat) : Nat := match m[i]? with | some c => c - 97 | none => 0
theorem val_succ (K : Nat) : ∀ (m : List Nat) (n : Nat), val K m (n + 1) = val K m n * K + fig m n
  | [], n => by rw [val_nil, val_nil]; simp [fig]
  | c :: m, 0 => by rw [val_cons, val_zero, val_zero]; simp [fig]
  | c :: m, n + 1 => by
    have ih := val_succ K m n
    rw [val_cons, ih, val_cons, Nat.pow_succ, Nat.add_mul, Nat.mul_assoc, ← Nat.add_assoc]
    simp [fig]
/-- the letters of the number r at the length n -/
def low (K r : Nat) : Nat → List Nat
  | 0 => []
  | n + 1 => (97 + r / K ^ n % K) :: low K r n
theorem low_length (K r : Nat) : ∀ n, (low K r n).length = n
  | 0 => rfl
  | n + 1 => by rw [low, List.length_cons, low_length K r n]
theorem low_ls {K : Nat} (hK : 0 < K) (r : Nat) : ∀ n, Ls K (low K r n)
  | 0 => Ls.nil K
  | n + 1 => fun c hc => by
    rcases List.mem_cons.mp hc with rfl | hc
    · have := Nat.mod_lt (r / K ^ n) hK; omega
    · exact low_ls hK r n c hc
theorem low_val_eq {K : Nat} (hK : 0 < K) (r : Nat) : ∀ n, val K (low K r n) n = r % K ^ n
  | 0 => by rw [val_zero, Nat.pow_zero, Nat.mod_one]
  | n + 1 => by
    rw [low, val_cons, low_val_eq hK r n, Nat.pow_succ, Nat.mod_mul, Nat.add_comm, Nat.mul_comm, Nat.add_sub_cancel_left]
/-- the a's at the end go -/
def cutA (m : List Nat) : List Nat := (m.reverse.dropWhile (fun c => [97].contains c)).reverse
theorem cutA_na {m : List Nat} (h : Na m) : cutA m = m := by
  unfold cutA
  cases e : m.reverse with
  | nil => rw [List.dropWhile_nil, ← e, List.reverse_reverse]
  | cons c r =>
    have hc : c ≠ 97 := h c (by rw [List.getLast?_eq_head?_reverse, e]; rfl)
    rw [List.dropWhile_cons_of_neg (by simp [hc]), ← e, List.reverse_reverse]
/-- the mark told to a number -/
def mk (K r n : Nat) : List Nat := cutA (low K r n)
end MM

/-! the mathematics of k03 -/
namespace MM
/-- the ends of hand j of h, K letters -/
def endsL (K h j : Nat) : List Nat := ((List.range (K - 1)).filter (fun i => decide (i % h = j))).map (98 + ·)
/-- those from number n on -/
def endsFrom (K h j n : Nat) : List Nat := ((List.range' (n - 1) (K - n)).filter (fun i => decide (i % h = j))).map (98 + ·)
theorem endsFrom_one (K h j : Nat) : endsFrom K h j 1 = endsL K h j := by
  unfold endsFrom endsL
  rw [List.range_eq_range']
theorem endsFrom_stop {K h j n : Nat} (hn : K ≤ n) : endsFrom K h j n = [] := by
  unfold endsFrom
  have : K - n = 0 := by omega
  rw [this]; rfl
theorem endsFrom_skip {K h j n : Nat} (h1 : 1 ≤ n) (hK : n < K) (hne : (n - 1) % h ≠ j) : endsFrom K h j n = endsFrom K h j (n + 1) := by
  unfold endsFrom
  obtain ⟨d, hd⟩ : ∃ d, K - n = d + 1 := ⟨K - n - 1, by omega⟩
  have e2 : K - (n + 1) = d := by omega
  have e3 : n + 1 - 1 = n - 1 + 1 := by omega
  rw [hd, e2, e3, List.range'_succ, List.filter_cons]
  simp [hne]
theorem endsFrom_take {K h j n : Nat} (h1 : 1 ≤ n) (hK : n < K) (he : (n - 1) % h = j) : endsFrom K h j n = (97 + n) :: endsFrom K h j (n + 1) := by
  unfold endsFrom
  obtain ⟨d, hd⟩ : ∃ d, K - n = d + 1 := ⟨K - n - 1, by omega⟩
  have e2 : K - (n + 1) = d := by omega
  have e3 : n + 1 - 1 = n - 1 + 1 := by omega
  rw [hd, e2, e3, List.range'_succ, List.filter_cons]
  simp [he]; omega
theorem endsFrom_skips {K h j : Nat} : ∀ (m n : Nat), 1 ≤ n → (∀ i, i < m → (n - 1 + i) % h ≠ j) → endsFrom K h j n = endsFrom K h j (n + m)
  | 0, n, _, _ => rfl
  | m + 1, n, h1, hne => by
    by_cases hK : n < K
    · rw [endsFrom_skip h1 hK (by have := hne 0 (by omega); simpa using this), endsFrom_skips m (n + 1) (by omega) (fun i hi => by have := hne (i + 1) (by omega); rwa [show n - 1 + (i + 1) = n + 1 - 1 + i by omega] at this)]
      congr 1; omega
    · rw [endsFrom_stop (by omega), endsFrom_stop (by omega)]
theorem mod_add_ne {a h i : Nat} (hi : 0 < i) (hh : i < h) : (a + i) % h ≠ a % h := by
  intro e
  have h0 : 0 < h := by omega
  have e1 := Nat.div_add_mod a h
  have e2 := Nat.div_add_mod (a + i) h
  rw [e] at e2
  have e3 : h * ((a + i) / h) = h * (a / h) + i := by omega
  rcases Nat.lt_or_ge (a / h) ((a + i) / h) with hl | hl
  · have : h * (a / h + 1) ≤ h * ((a + i) / h) := Nat.mul_le_mul_left h hl
    rw [Nat.mul_add] at this; omega
  · have : h * ((a + i) / h) ≤ h * (a / h) := Nat.mul_le_mul_left h hl
    omega
/-- a step of the law's own loop -/
theorem endsFrom_step {K h j n : Nat} (h0 : 0 < h) (h1 : 1 ≤ n) (hK : n < K) (he : (n - 1) % h = j) : endsFrom K h j n = (97 + n) :: endsFrom K h j (n + h) := by
  rw [endsFrom_take h1 hK he, endsFrom_skips (h - 1) (n + 1) (by omega) (fun i hi => by
    have := mod_add_ne (a := n - 1) (h := h) (i := i + 1) (by omega) (by omega)
    rw [he] at this
    rwa [show n + 1 - 1 + i = n - 1 + (i + 1) by omega])]
  congr 2; omega
theorem endsFrom_start {K h j : Nat} (hj : j < h) : endsFrom K h j (1 + j) = endsL K h j := by
  rw [← endsFrom_one, Nat.add_comm 1 j, Nat.add_comm j 1]
  exact (endsFrom_skips j 1 (by omega) (fun i hi => by
    show (0 + i) % h ≠ j
    rw [Nat.zero_add, Nat.mod_eq_of_lt (by omega)]; omega)).symm
theorem endsL_ne {K h j : Nat} (hj : j < h) (hh : h + 1 ≤ K) : endsL K h j ≠ [] := by
  rw [← endsFrom_start hj, endsFrom_step (by omega) (by omega) (by omega) (by rw [Nat.add_comm, Nat.add_sub_cancel]; exact Nat.mod_eq_of_lt hj)]
  exact List.cons_ne_nil _ _
theorem endsL_mem {K h j c : Nat} : c ∈ endsL K h j ↔ ∃ i, i < K - 1 ∧ i % h = j ∧ c = 98 + i := by
  unfold endsL
  simp only [List.mem_map, List.mem_filter, List.mem_range, decide_eq_true_eq]
  constructor
  · rintro ⟨a, ⟨h1, h2⟩, h3⟩; exact ⟨a, h1, h2, h3.symm⟩
  · rintro ⟨a, h1, h2, h3⟩; exact ⟨a, ⟨h1, h2⟩, h3.symm⟩
end MM

/-! rooms: the numbers whose last letter is one of the ends -/
namespace MM
/-- ends: codes from 98 on, of L letters, rising -/
structure Ends (L : Nat) (es : List Nat) : Prop where
  up : es.Pairwise (· < ·)
  lo : ∀ e ∈ es, 98 ≤ e
  hi : ∀ e ∈ es, e < 97 + L
  ne : es ≠ []
def cnt (es : List Nat) (x : Nat) : Nat := (es.filter (fun e => decide (e < x))).length
def ob (L : Nat) (es : List Nat) (N : Nat) : Nat := N / L * es.length + cnt es (97 + N % L)
def ow (L : Nat) (es : List Nat) (w : Nat) : Bool := decide (97 + w % L ∈ es)
def nth (L : Nat) (es : List Nat) (p : Nat) : Nat := p / es.length * L + (es.getD (p % es.length) 0 - 97)
theorem cnt_succ {es : List Nat} (h : es.Pairwise (· < ·)) (x : Nat) : cnt es (x + 1) = cnt es x + (if x ∈ es then 1 else 0) := by
  induction es with
  | nil => rfl
  | cons e r ih =>
    obtain ⟨h1, h2⟩ := List.pairwise_cons.mp h
    have ih := ih h2
    unfold cnt at ih ⊢
    rw [List.filter_cons, List.filter_cons]
    by_cases a : e < x
    · have m : x ∈ e :: r ↔ x ∈ r := by rw [List.mem_cons]; constructor
                                        · rintro (rfl | z)
                                          · omega
                                          · exact z
                                        · exact .inr
      rw [if_pos (by simp; omega), if_pos (by simpa using a), List.length_cons, List.length_cons, ih]
      simp only [m]; omega
    · by_cases b : e = x
      · subst b
        rw [if_pos (by simp), if_neg (by simp)]
        have no : e ∉ r := fun z => by have := h1 e z; omega
        rw [if_neg no] at ih
        rw [List.length_cons, ih, if_pos List.mem_cons_self]
      · have no : x ∉ r := fun z => by have := h1 x z; omega
        rw [if_neg (by simp; omega), if_neg (by simpa using a), ih, if_neg no, if_neg (by rw [List.mem_cons]; rintro (z | z); omega; exact no z)]
theorem cnt_low {es : List Nat} (h : ∀ e ∈ es, 98 ≤ e) : cnt es 97 = 0 := by
  unfold cnt
  rw [List.length_eq_zero_iff, List.filter_eq_nil_iff]
  intro e he; have := h e he; simp only [decide_eq_true_eq]; omega
theorem cnt_all {es : List Nat} {x : Nat} (h : ∀ e ∈ es, e < x) : cnt es x = es.length := by
  unfold cnt
  rw [List.filter_eq_self.mpr (fun e he => by simpa using h e he)]
theorem ob_succ {L : Nat} {es : List Nat} (hL : 0 < L) (E : Ends L es) (w : Nat) : ob L es (w + 1) = ob L es w + (if ow L es w = true then 1 else 0) := by
  unfold ob ow
  have hm := Nat.mod_lt w hL
  simp only [decide_eq_true_eq]
  by_cases h : w % L + 1 < L
  · have e1 : (w + 1) / L = w / L := by rw [Nat.add_div hL]; have : 1 % L = 1 := Nat.mod_eq_of_lt (by omega); rw [this, Nat.div_eq_of_lt (show 1 < L by omega), if_neg (by omega)]; rfl
    have e2 : (w + 1) % L = w % L + 1 := by rw [Nat.add_mod, Nat.mod_eq_of_lt (show 1 < L by omega)]; exact Nat.mod_eq_of_lt h
    rw [e1, e2, show 97 + (w % L + 1) = 97 + w % L + 1 by omega, cnt_succ E.up, Nat.add_assoc]
  · have hl : w % L + 1 = L := by omega
    have hd := Nat.div_add_mod w L
    have e0 : w + 1 = L * (w / L + 1) := by rw [Nat.mul_add]; omega
    have e1 : (w + 1) / L = w / L + 1 := by rw [e0, Nat.mul_div_cancel_left _ hL]
    have e2 : (w + 1) % L = 0 := by rw [e0, Nat.mul_mod_right]
    have e3 := cnt_succ E.up (97 + w % L)
    rw [show 97 + w % L + 1 = 97 + L by omega, cnt_all E.hi] at e3
    rw [e1, e2, Nat.add_zero, cnt_low E.lo, Nat.add_mul, Nat.one_mul, e3]; omega
theorem cnt_at {es : List Nat} (h : es.Pairwise (· < ·)) : ∀ {r : Nat} {x : Nat}, es[r]? = some x → cnt es x = r := by
  induction es with
  | nil => intro r x e; simp at e
  | cons e t ih =>
    intro r x hx
    obtain ⟨h1, h2⟩ := List.pairwise_cons.mp h
    cases r with
    | zero =>
      obtain rfl : e = x := by simpa using hx
      unfold cnt
      rw [List.length_eq_zero_iff, List.filter_eq_nil_iff]
      intro y hy
      rcases List.mem_cons.mp hy with rfl | hy
      · simp
      · have := h1 y hy; simp; omega
    | succ r =>
      have hx' : t[r]? = some x := by simpa using hx
      have := h1 x (List.mem_of_getElem? hx')
      have i2 := ih h2 hx'
      unfold cnt at i2 ⊢
      rw [List.filter_cons_of_pos (by simpa using this), List.length_cons, i2]
theorem nth_ob {L : Nat} {es : List Nat} (hL : 0 < L) (E : Ends L es) {w : Nat} (h : ow L es w = true) : nth L es (ob L es w) = w := by
  have hm : 97 + w % L ∈ es := of_decide_eq_true h
  obtain ⟨r, hr, e⟩ := List.getElem_of_mem hm
  have hx : es[r]? = some (97 + w % L) := by rw [List.getElem?_eq_getElem hr, e]
  have c := cnt_at E.up hx
  unfold nth ob
  rw [c]
  have e1 : (w / L * es.length + r) / es.length = w / L := by rw [Nat.mul_comm, Nat.mul_add_div (by omega), Nat.div_eq_of_lt hr]; rfl
  have e2 : (w / L * es.length + r) % es.length = r := by rw [Nat.mul_comm, Nat.mul_add_mod, Nat.mod_eq_of_lt hr]
  rw [e1, e2, List.getD_eq_getElem?_getD, hx]
  have := Nat.div_add_mod w L
  rw [Nat.mul_comm] at this
  simp only [Option.getD_some]; omega
theorem ob_mono {L : Nat} {es : List Nat} (hL : 0 < L) (E : Ends L es) {a : Nat} : ∀ {b : Nat}, a ≤ b → ob L es a ≤ ob L es b
  | 0, h => by obtain rfl : a = 0 := by omega
               exact Nat.le_refl _
  | b + 1, h => by
    by_cases e : a = b + 1
    · rw [e]; exact Nat.le_refl _
    · have := ob_mono hL E (a := a) (b := b) (by omega)
      rw [ob_succ hL E]; omega
theorem ends_ok {K h j : Nat} (hj : j < h) (hh : h + 1 ≤ K) : Ends K (endsL K h j) where
  up := by
    unfold endsL
    rw [List.pairwise_map]
    refine List.Pairwise.imp ?_ ((List.pairwise_lt_range (n := K - 1)).filter _)
    intro a b hab; omega
  lo := fun e he => by obtain ⟨i, _, _, rfl⟩ := endsL_mem.mp he; omega
  hi := fun e he => by obtain ⟨i, hi, _, rfl⟩ := endsL_mem.mp he; omega
  ne := endsL_ne hj hh
/-- all texts of n letters, in their order -/
theorem low_snoc {L : Nat} (hL : 0 < L) {i : Nat} (hi : i < L) (q : Nat) : ∀ n, low L (q * L + i) (n + 1) = low L q n ++ [97 + i]
  | 0 => by
    show [97 + (q * L + i) / L ^ 0 % L] = [97 + i]
    rw [Nat.pow_zero, Nat.div_one, Nat.mul_comm, Nat.mul_add_mod, Nat.mod_eq_of_lt hi]
  | n + 1 => by
    rw [low, low_snoc hL hi q n, low, List.cons_append]
    congr 2
    rw [Nat.pow_succ, Nat.mul_comm (L ^ n), ← Nat.div_div_eq_div_mul]
    congr 1
    have : (q * L + i) / L = q := by rw [Nat.mul_comm, Nat.mul_add_div hL, Nat.div_eq_of_lt hi]; rfl
    rw [this]
theorem low_last {L w n : Nat} (hL : 0 < L) : (low L w (n + 1)).getLast? = some (97 + w % L) := by
  have hd := Nat.div_add_mod w L
  have e : w = w / L * L + w % L := by rw [Nat.mul_comm]; omega
  rw [e, low_snoc hL (Nat.mod_lt w hL)]
  simp [Nat.mod_eq_of_lt (Nat.mod_lt w hL)]
theorem mk_low {L w n : Nat} (hL : 0 < L) (h : w % L ≠ 0) : mk L w (n + 1) = low L w (n + 1) := by
  unfold mk
  refine cutA_na fun c hc => ?_
  rw [low_last hL] at hc
  have := Option.some.inj hc; omega
end MM

namespace MM
theorem ends_le {L : Nat} (hL : 0 < L) : ∀ {l h : List Nat} (n : Nat), Ls L l → Ls L h → Na h → l < h → val L l n < val L h n ∨ (val L l n = val L h n ∧ n < h.length)
  | l, [], n, _, _, _, hlt => absurd hlt (List.not_lt_nil _)
  | l, c :: h, 0, _, _, _, _ => .inr ⟨by rw [val_zero, val_zero], by simp⟩
  | [], c :: h, n + 1, _, hh, na, _ => by
    rw [val_nil]
    by_cases z : (c :: h).length ≤ n + 1
    · exact .inl (val_pos hL _ hh na (by simp) z)
    · by_cases y : 0 < val L (c :: h) (n + 1)
      · exact .inl y
      · exact .inr ⟨by omega, by omega⟩
  | d :: l, c :: h, n + 1, hl, hh, na, hlt => by
    have hc := hh.head
    have hd := hl.head
    have x1 := val_lt hL n hl.tail
    have x2 := val_lt hL n hh.tail
    rw [val_cons, val_cons]
    rcases List.cons_lt_cons_iff.mp hlt with z | ⟨rfl, z⟩
    · exact .inl ((lt_parts x1 x2).mpr (.inl (by omega)))
    · rcases ends_le hL n hl.tail hh.tail na.tail z with y | ⟨y1, y2⟩
      · exact .inl (by omega)
      · exact .inr ⟨by omega, by simp; omega⟩
theorem nth_mod {L : Nat} {es : List Nat} (E : Ends L es) (p : Nat) : nth L es p % L ≠ 0 := by
  have hp : 0 < es.length := List.length_pos_iff.mpr E.ne
  have hm := Nat.mod_lt p hp
  have hx : es[p % es.length]? = some es[p % es.length] := List.getElem?_eq_getElem hm
  have h1 := E.lo _ (List.mem_of_getElem? hx)
  have h2 := E.hi _ (List.mem_of_getElem? hx)
  unfold nth
  rw [List.getD_eq_getElem?_getD, hx, Nat.mul_comm, Nat.mul_add_mod, Option.getD_some, Nat.mod_eq_of_lt (by omega)]
  omega
end MM

/-! numbers between: the least length, the sum by figures -/
namespace MM
theorem ob_nth {L : Nat} {es : List Nat} (hL : 0 < L) (E : Ends L es) (p : Nat) : ob L es (nth L es p) = p ∧ ow L es (nth L es p) = true := by
  have hp : 0 < es.length := List.length_pos_iff.mpr E.ne
  have hm := Nat.mod_lt p hp
  have hx : es[p % es.length]? = some es[p % es.length] := List.getElem?_eq_getElem hm
  have hmem := List.mem_of_getElem? hx
  have h1 := E.lo _ hmem
  have h2 := E.hi _ hmem
  have hc := cnt_at E.up hx
  generalize es[p % es.length] = e at *
  have e0 : nth L es p = p / es.length * L + (e - 97) := by unfold nth; rw [List.getD_eq_getElem?_getD, hx]; rfl
  have e1 : nth L es p / L = p / es.length := by rw [e0, Nat.mul_comm, Nat.mul_add_div hL, Nat.div_eq_of_lt (show e - 97 < L by omega)]; rfl
  have e2 : nth L es p % L = e - 97 := by rw [e0, Nat.mul_comm, Nat.mul_add_mod, Nat.mod_eq_of_lt (by omega)]
  constructor
  · unfold ob
    rw [e1, e2, show 97 + (e - 97) = e by omega, hc, Nat.mul_comm]
    exact Nat.div_add_mod p es.length
  · unfold ow
    rw [e2, show 97 + (e - 97) = e by omega]
    exact decide_eq_true hmem
theorem nth_in {L : Nat} {es : List Nat} (hL : 0 < L) (E : Ends L es) {A B p : Nat} (h1 : ob L es A ≤ p) (h2 : p < ob L es B) : A ≤ nth L es p ∧ nth L es p < B := by
  obtain ⟨o1, o2⟩ := ob_nth hL E p
  constructor
  · by_cases z : A ≤ nth L es p
    · exact z
    · have := ob_mono hL E (show nth L es p + 1 ≤ A by omega)
      rw [ob_succ hL E, if_pos o2, o1] at this
      omega
  · by_cases z : nth L es p < B
    · exact z
    · have := ob_mono hL E (show B ≤ nth L es p by omega)
      omega
def gI (L N e : Nat) : Int := ((N : Int) - 1 - ((e - 97 : Nat) : Int)) / (L : Int)
theorem gI_eq {L N e : Nat} (hL : 0 < L) (h1 : 98 ≤ e) (h2 : e < 97 + L) : gI L N e + 1 = ((N / L : Nat) : Int) + (if e < 97 + N % L then 1 else 0) := by
  unfold gI
  have hm := Nat.mod_lt N hL
  have hd := Nat.div_add_mod N L
  by_cases z : e < 97 + N % L
  · rw [if_pos z]
    have : ((N : Int) - 1 - ((e - 97 : Nat) : Int)) = (((N % L - 1 - (e - 97) : Nat)) : Int) + (L : Int) * ((N / L : Nat) : Int) := by
      rw [← Int.natCast_mul]; omega
    rw [this, Int.add_mul_ediv_left _ _ (by omega), Int.ediv_eq_zero_of_lt (by omega) (by omega)]; omega
  · rw [if_neg z]
    have : ((N : Int) - 1 - ((e - 97 : Nat) : Int)) = (((N % L + L - 1 - (e - 97) : Nat)) : Int) + (L : Int) * (((N / L : Nat) : Int) - 1) := by
      rw [Int.mul_sub, ← Int.natCast_mul, Int.mul_one]; omega
    rw [this, Int.add_mul_ediv_left _ _ (by omega), Int.ediv_eq_zero_of_lt (by omega) (by omega)]; omega
theorem gI_sum {L N A : Nat} (hL : 0 < L) : ∀ {es : List Nat}, (∀ e ∈ es, 98 ≤ e ∧ e < 97 + L) → (es.map fun e => gI L N e - gI L A e).sum = ((N / L * es.length + cnt es (97 + N % L) : Nat) : Int) - ((A / L * es.length + cnt es (97 + A % L) : Nat) : Int)
  | [], _ => by simp [cnt]
  | e :: es, h => by
    have ih := gI_sum hL (N := N) (A := A) (es := es) (fun x hx => h x (List.mem_cons_of_mem _ hx))
    obtain ⟨h1, h2⟩ := h e List.mem_cons_self
    have g1 := gI_eq (N := N) hL h1 h2
    have g2 := gI_eq (N := A) hL h1 h2
    have c : ∀ x, cnt (e :: es) x = (if e < x then 1 else 0) + cnt es x := by
      intro x
      unfold cnt
      by_cases z : e < x
      · rw [List.filter_cons_of_pos (by simpa using z), List.length_cons, if_pos z]; omega
      · rw [List.filter_cons_of_neg (by simpa using z), if_neg z]; omega
    rw [List.map_cons, List.sum_cons, ih, c, c, List.length_cons, Nat.mul_add, Nat.mul_add, Nat.mul_one, Nat.mul_one]
    by_cases a : e < 97 + N % L <;> by_cases b : e < 97 + A % L
    all_goals (simp only [a, b, if_true, if_false] at g1 g2 ⊢; omega)
theorem ob_sum {L N A : Nat} {es : List Nat} (hL : 0 < L) (E : Ends L es) : (es.map fun e => gI L N e - gI L A e).sum = (ob L es N : Int) - (ob L es A : Int) :=
  gI_sum hL fun e he => ⟨E.lo e he, E.hi e he⟩
end MM

set_option Elab.async false
set_option linter.all false
set_option maxRecDepth 100000
set_option maxHeartbeats 4000000
namespace L2
open PySem PySem.Spec PyProof.Rows MM
/-! ### the draw by shifts -/
def spDraw (K : PySem.W.Frag) : Sp := fun vs H Q _ => ∃ (a : Addr) (ns : List Int) (k m : Int), vs = [.ref a, .int k, .int m] ∧ SqL K H a (ns.map V.int) ∧ ns.length ≤ 63 ∧ 0 ≤ k ∧ k < 1048576 ∧ 0 < m ∧ ∀ r : Int, 0 ≤ r → r < m → Q (.int r) H
def rdDraw (K : PySem.W.Frag) : TS :=
    tSeq (tAsg (tIf (tTest (tOp rGtI (tCB (rLenL K) (tCons (tVar 0) tNil)) (tC (.int 0)))) (tOp (rIxL K) (tVar 0) (tOp rModI (tVar 1) (tCB (rLenL K) (tCons (tVar 0) tNil)))) (tC (.int 0))) (gName 3))
      (tSeq (tIfS (tAnd (tTest (tOp rGtI (tCB (rLenL K) (tCons (tVar 0) tNil)) (tC (.int 0)))) (tTest (tOp rEq (tOp rModI (tOp (rIxL K) (tVar 0) (tC (.int 0))) (tC (.int 2))) (tC (.int 1))))) (tRet (tOp rModI (tOp rModI (tOp rShrI (tVar 3) (tOp rAddI (tOp rMulI (tC (.int 20)) (tOp rDivI (tVar 1) (tCB (rLenL K) (tCons (tVar 0) tNil)))) (tC (.int 1)))) (tC (.int 1048576))) (tVar 2))) (tNext))
      (tSeq (tAsg (tOp rAddI (tOp rAddI (tOp rModI (tVar 3) (tC (.int 1000003))) (tOp rMulI (tOp rMulI (tC (.int 31)) (tVar 1)) (tVar 1))) (tC (.int 1))) (gName 4))
      (tRet (tOp rModI (tOp rModI (tOp rMulI (tOp rModI (tOp rMulI (tVar 4) (tC (.int 48271))) (tC (.int 999983))) (tC (.int 7919))) (tC (.int 524287))) (tVar 2)))))
theorem draw_end {i k m : Int} {Q : Int → Prop} (h0 : 0 ≤ k) (h1 : k < 1048576) (h2 : 0 < m) (q : ∀ r : Int, 0 ≤ r → r < m → Q r) :
    (0 : Int) < 1000003 ∧ CMulB 31 k ∧ CMulB (31 * k) k ∧ CMulB (i % 1000003 + 31 * k * k + 1) 48271 ∧ (0 : Int) < 999983 ∧ CMulB ((i % 1000003 + 31 * k * k + 1) * 48271 % 999983) 7919 ∧ (0 : Int) < 524287 ∧ 0 < m ∧
      Q ((i % 1000003 + 31 * k * k + 1) * 48271 % 999983 * 7919 % 524287 % m) :=
  ⟨by decide, mulB_l (by decide) (by decide), mulB_r (by omega) (by omega), mulB_r (by decide) (by decide), by decide, mulB_r (by decide) (by decide), by decide, h2, q _ (Int.emod_nonneg _ (by omega)) (Int.emod_lt_of_pos _ h2)⟩
theorem draw_shr {i k m : Int} {x : Int} {Q : Int → Prop} (h0 : 0 ≤ k) (hx : 0 < x) (hx2 : x ≤ 63) (h2 : 0 < m) (q : ∀ r : Int, 0 ≤ r → r < m → Q r) :
    CDiv k x ∧ CMulB 20 (k / x) ∧ 0 ≤ 20 * (k / x) + 1 ∧ (0 : Int) < 1048576 ∧ 0 < m ∧ Q (i / 2 ^ (20 * (k / x) + 1).toNat % 1048576 % m) := by
  have e : 0 ≤ k / x := Int.ediv_nonneg h0 (by omega)
  exact ⟨cdiv hx (by omega), mulB_l (by decide) (by decide), by omega, by decide, h2, q _ (Int.emod_nonneg _ (by omega)) (Int.emod_lt_of_pos _ h2)⟩
theorem read_draw {K : PySem.W.Frag} {N : List Str} {vs : List V} {H : Hp} {Q : VK} {E : XK} (hN : N.length = 5) (h : spDraw K vs H Q E) : rdDraw K { nx := fun _ H' => Q .non H', rt := Q } (L2.start N vs) H := by
  obtain ⟨a, ns, k, m, rfl, hS, hl, h0, h1, h2, q⟩ := h
  unfold rdDraw L2.start
  rw [hN]
  simp only [tCompSet, tRaise, tIsi, tSeq, tAsg, gName, tOp, tUn, tVar, tC, tTest, tB, tIf, tIfS, tAnd, tOr, tNot, tAndV, tOrV, tNotV, tRet, tRetN, tNext, tDrop, tCB, tCons, tNil, tBM, tBM0, tCall, tLst, tTup, tSl, tPart, tNoPart, tIsN, tNotN, tYes, tBreak, tCont, rI0, rI, rU, rEq, rNe, L2.start, compSt, List.map_cons, List.map_nil, List.length_cons, List.length_nil, List.replicate_succ, List.replicate_zero, List.cons_append, List.nil_append, List.append_nil, List.getElem?_cons_zero, List.getElem?_cons_succ, List.set_cons_zero, List.set_cons_succ, Option.some.injEq, Option.join_some, V.int.injEq, V.str.injEq, V.bl.injEq, V.ref.injEq, txt_inj, exists_eq_left', exists_eq_left, exists_and_left, and_true, true_and, decide_eq_true_eq, reduceCtorEq, decide_false, decide_true, Bool.not_false, Bool.not_true, if_true, if_false, Bool.false_eq_true, Nat.reduceAdd, Nat.reduceSub, Bool.not_eq_true', decide_eq_false_iff_not, not_true_eq_false, not_false_eq_true]
  refine lenI_go hS ⟨_, rfl, ?_⟩
  by_cases hn : (0 : Int) < (ns.length : Int)
  · rw [if_pos hn]
    refine lenI_go hS ⟨_, rfl, hn, ixI_go hS (Int.emod_nonneg _ (by omega)) (Int.emod_lt_of_pos _ hn) fun z _ _ => ?_⟩
    refine lenI_go hS ⟨_, rfl, ?_⟩
    rw [if_pos hn]
    refine ixI_go hS (by decide) hn fun z0 _ _ => ⟨_, rfl, by decide, rfl, ?_⟩
    split
    · refine lenI_go hS ⟨_, rfl, ?_⟩
      have := draw_shr (i := z) (Q := fun r => Q (.int r) H) h0 hn (by omega) h2 q
      exact ⟨this.1, this.2.1, _, rfl, this.2.2⟩
    · exact ⟨_, rfl, draw_end (Q := fun r => Q (.int r) H) h0 h1 h2 q⟩
  · rw [if_neg hn]
    refine lenI_go hS ⟨_, rfl, ?_⟩
    rw [if_neg hn]
    exact draw_end (Q := fun r => Q (.int r) H) h0 h1 h2 q
/-! ### the ends of a hand -/
def spEnds : Sp := fun vs H Q _ => ∃ (K h j : Nat), vs = [.int K, .int h, .int j] ∧ K ≤ 26 ∧ 0 < h ∧ ∀ H', Same H H' → Q (.str (txt (endsL K h j))) H'
def rdEnds (K : PySem.W.Frag) : TS :=
    tRet (tBM K "str" (rJoin K) (tC (.str (txt []))) (tCons (tComp (iRng2 (tCons (tC (.int 1)) (tCons (tVar 0) tNil))) [2, 1] (tTest (tOp rEq (tOp rModI (tOp rSubI (tVar 0) (tC (.int 1))) (tVar 2)) (tVar 1))) (tOp rIxStr (tC (.str (txt ABC))) (tVar 0))) tNil))
theorem flat_ones (l : List Nat) : (l.map fun c => [c]).flatten = l := by
  induction l with
  | nil => rfl
  | cons c l ih => rw [List.map_cons, List.flatten_cons, ih]; rfl
theorem sum_ones (l : List Nat) : ((l.map fun c => [c]).map (·.length)).sum = l.length := by
  induction l with
  | nil => rfl
  | cons c l ih => simp only [List.map_cons, List.sum_cons, ih, List.length_cons, List.length_nil]; omega
theorem read_ends {K : PySem.W.Frag} {N : List Str} {vs : List V} {H : Hp} {Q : VK} {E : XK} (hN : N.length = 3) (h : spEnds vs H Q E) : rdEnds K { nx := fun _ H' => Q .non H', rt := Q } (L2.start N vs) H := by
  obtain ⟨n, h, j, rfl, hn, hh, q⟩ := h
  unfold rdEnds L2.start
  rw [hN]
  simp only [tCompSet, tRaise, tIsi, tSeq, tAsg, gName, tOp, tUn, tVar, tC, tTest, tB, tIf, tIfS, tAnd, tOr, tNot, tAndV, tOrV, tNotV, tRet, tRetN, tNext, tDrop, tCB, tCons, tNil, tBM, tBM0, tCall, tLst, tTup, tSl, tPart, tNoPart, tIsN, tNotN, tYes, tBreak, tCont, rI0, rI, rU, rEq, rNe, L2.start, compSt, List.map_cons, List.map_nil, List.length_cons, List.length_nil, List.replicate_succ, List.replicate_zero, List.cons_append, List.nil_append, List.append_nil, List.getElem?_cons_zero, List.getElem?_cons_succ, List.set_cons_zero, List.set_cons_succ, Option.some.injEq, Option.join_some, V.int.injEq, V.str.injEq, V.bl.injEq, V.ref.injEq, txt_inj, exists_eq_left', exists_eq_left, exists_and_left, and_true, true_and, decide_eq_true_eq, reduceCtorEq, decide_false, decide_true, Bool.not_false, Bool.not_true, if_true, if_false, Bool.false_eq_true, Nat.reduceAdd, Nat.reduceSub, Bool.not_eq_true', decide_eq_false_iff_not, not_true_eq_false, not_false_eq_true]
  refine ⟨rfl, ?_⟩
  refine comp_r2 (l := 1) (j := n) (fun Q h => ⟨_, rfl, h⟩) (by decide) (by decide) (by omega) (by omega) (Nat.le_trans (show ((n : Int) - 1).toNat ≤ 100000 by omega) (by decide))
    (fun i ys H' => H' = H ∧ ys = ((List.range i).filter (fun i => decide (i % h = j))).map (fun i => strV [98 + i])) ⟨rfl, rfl⟩
    (fun i ys H' _ p => by rw [p.2, List.length_map]; exact Nat.le_trans (List.length_filter_le _ _) (by rw [List.length_range]; exact Nat.le_refl _)) ?_ ?_
  · rintro i ys H' hi ⟨rfl, rfl⟩ R hR
    simp only [tCompSet, tRaise, tIsi, tSeq, tAsg, gName, tOp, tUn, tVar, tC, tTest, tB, tIf, tIfS, tAnd, tOr, tNot, tAndV, tOrV, tNotV, tRet, tRetN, tNext, tDrop, tCB, tCons, tNil, tBM, tBM0, tCall, tLst, tTup, tSl, tPart, tNoPart, tIsN, tNotN, tYes, tBreak, tCont, rI0, rI, rU, rEq, rNe, L2.start, compSt, List.map_cons, List.map_nil, List.length_cons, List.length_nil, List.replicate_succ, List.replicate_zero, List.cons_append, List.nil_append, List.append_nil, List.getElem?_cons_zero, List.getElem?_cons_succ, List.set_cons_zero, List.set_cons_succ, Option.some.injEq, Option.join_some, V.int.injEq, V.str.injEq, V.bl.injEq, V.ref.injEq, txt_inj, exists_eq_left', exists_eq_left, exists_and_left, and_true, true_and, decide_eq_true_eq, reduceCtorEq, decide_false, decide_true, Bool.not_false, Bool.not_true, if_true, if_false, Bool.false_eq_true, Nat.reduceAdd, Nat.reduceSub, Bool.not_eq_true', decide_eq_false_iff_not, not_true_eq_false, not_false_eq_true]
    have e1 : (1 + (i : Int) - 1) % (h : Int) = ((i % h : Nat) : Int) := by rw [show (1 + (i : Int) - 1) = (i : Int) by omega]; exact (Int.natCast_emod i h).symm
    rw [e1]
    refine ⟨by omega, rfl, ?_⟩
    rw [List.range_succ, List.filter_append, List.map_append] at hR
    split
    · rename_i e
      refine ixABC_go (by omega) (by omega) (hR _ _ ⟨rfl, ?_⟩)
      rw [show (1 + (i : Int)).toNat = i + 1 by omega, List.filter_cons_of_pos (by simpa using (show i % h = j by omega))]
      simp only [List.filter_nil, List.map_cons, List.map_nil]
      rw [show 97 + (i + 1) = 98 + i by omega]; rfl
    · rename_i e
      refine hR _ _ ⟨rfl, ?_⟩
      rw [List.filter_cons_of_neg (by simpa using (show ¬ i % h = j by omega))]
      simp
  · rintro ys H' ⟨rfl, rfl⟩ p hp
    refine ⟨[], p, (endsL n h j).map (fun c => [c]), rfl, rfl, ?_, ?_, ?_⟩
    · refine .inl (.inl (Eq.trans upd_same (congrArg (fun l => some (HO.lst l)) ?_)))
      unfold endsL
      rw [show ((n : Int) - 1).toNat = n - 1 by omega, List.map_map, List.map_map]
      rfl
    · rw [sum_ones, List.length_map]
      have : (endsL n h j).length ≤ 26 := by
        unfold endsL
        rw [List.length_map]
        exact Nat.le_trans (List.length_filter_le _ _) (by rw [List.length_range]; omega)
      simp only [List.length_nil]; omega
    · rw [joinL_nil, flat_ones]
      exact q _ (Same.up _ hp)
end L2

set_option Elab.async false
set_option linter.all false
set_option maxRecDepth 100000
set_option maxHeartbeats 4000000
namespace L2
open PySem PySem.Spec PyProof.Rows MM
/-! ### a mark or None -/
def oV : Option (List Nat) → V
  | none => .non
  | some l => .str (txt l)
def figO : Option (List Nat) → Nat → Nat
  | none, _ => 0
  | some l, i => fig l i
def valO (K : Nat) : Option (List Nat) → Nat → Nat
  | none, _ => 0
  | some l, n => val K l n
def OkO : Option (List Nat) → Prop
  | none => True
  | some l => Ls 26 l ∧ l.length ≤ 100000
theorem valO_zero (K : Nat) (o : Option (List Nat)) : valO K o 0 = 0 := by cases o <;> simp [valO, val_zero]
theorem valO_succ (K : Nat) (o : Option (List Nat)) (n : Nat) : valO K o (n + 1) = valO K o n * K + figO o n := by
  cases o with
  | none => simp [valO, figO]
  | some l => exact val_succ K l n
/-! ### figure_at -/
def spFig : Sp := fun vs H Q _ => ∃ (o : Option (List Nat)) (i : Nat), vs = [oV o, .int i] ∧ OkO o ∧ Q (.int (figO o i : Nat)) H
def rdFig (K : PySem.W.Frag) : TS :=
    tSeq (tIfS (tOr (tB (tIsN (tVar 0))) (tTest (tOp rGeI (tVar 1) (tCB rLenS (tCons (tVar 0) tNil))))) (tRet (tC (.int 0))) (tNext))
      (tRet (tBM K "str" rIndex (tC (.str (txt ABC))) (tCons (tOp rIxStr (tVar 0) (tVar 1)) tNil)))
theorem read_fig {K : PySem.W.Frag} {N : List Str} {vs : List V} {H : Hp} {Q : VK} {E : XK} (hN : N.length = 2) (h : spFig vs H Q E) : rdFig K { nx := fun _ H' => Q .non H', rt := Q } (L2.start N vs) H := by
  obtain ⟨o, i, rfl, ho, q⟩ := h
  unfold rdFig L2.start
  rw [hN]
  cases o with
  | none =>
    simp only [oV, tCompSet, tRaise, tIsi, tSeq, tAsg, gName, tOp, tUn, tVar, tC, tTest, tB, tIf, tIfS, tAnd, tOr, tNot, tAndV, tOrV, tNotV, tRet, tRetN, tNext, tDrop, tCB, tCons, tNil, tBM, tBM0, tCall, tLst, tTup, tSl, tPart, tNoPart, tIsN, tNotN, tYes, tBreak, tCont, rI0, rI, rU, rEq, rNe, L2.start, compSt, List.map_cons, List.map_nil, List.length_cons, List.length_nil, List.replicate_succ, List.replicate_zero, List.cons_append, List.nil_append, List.append_nil, List.getElem?_cons_zero, List.getElem?_cons_succ, List.set_cons_zero, List.set_cons_succ, Option.some.injEq, Option.join_some, V.int.injEq, V.str.injEq, V.bl.injEq, V.ref.injEq, txt_inj, exists_eq_left', exists_eq_left, exists_and_left, and_true, true_and, decide_eq_true_eq, reduceCtorEq, decide_false, decide_true, Bool.not_false, Bool.not_true, if_true, if_false, Bool.false_eq_true, Nat.reduceAdd, Nat.reduceSub, Bool.not_eq_true', decide_eq_false_iff_not, not_true_eq_false, not_false_eq_true]
    exact q
  | some l =>
    obtain ⟨hl, hz⟩ := ho
    simp only [oV, tCompSet, tRaise, tIsi, tSeq, tAsg, gName, tOp, tUn, tVar, tC, tTest, tB, tIf, tIfS, tAnd, tOr, tNot, tAndV, tOrV, tNotV, tRet, tRetN, tNext, tDrop, tCB, tCons, tNil, tBM, tBM0, tCall, tLst, tTup, tSl, tPart, tNoPart, tIsN, tNotN, tYes, tBreak, tCont, rI0, rI, rU, rEq, rNe, L2.start, compSt, List.map_cons, List.map_nil, List.length_cons, List.length_nil, List.replicate_succ, List.replicate_zero, List.cons_append, List.nil_append, List.append_nil, List.getElem?_cons_zero, List.getElem?_cons_succ, List.set_cons_zero, List.set_cons_succ, Option.some.injEq, Option.join_some, V.int.injEq, V.str.injEq, V.bl.injEq, V.ref.injEq, txt_inj, exists_eq_left', exists_eq_left, exists_and_left, and_true, true_and, decide_eq_true_eq, reduceCtorEq, decide_false, decide_true, Bool.not_false, Bool.not_true, if_true, if_false, Bool.false_eq_true, Nat.reduceAdd, Nat.reduceSub, Bool.not_eq_true', decide_eq_false_iff_not, not_true_eq_false, not_false_eq_true]
    refine lenS_go hz ⟨_, rfl, ?_⟩
    by_cases hi : l.length ≤ i
    · rw [if_pos (by omega)]
      have e : figO (some l) i = 0 := by simp [figO, fig, List.getElem?_eq_none hi]
      rw [e] at q
      exact q
    · rw [if_neg (by omega)]
      have hi' : i < l.length := by omega
      have e : figO (some l) i = l[i] - 97 := by simp [figO, fig, hi']
      have hc := hl l[i] (List.getElem_mem hi')
      rw [e] at q
      exact ⟨rfl, ixS_go hz (by omega) (by simp [hi']) (idxABC_go hc.1 hc.2 q)⟩
/-! ### whole_of -/
def spWhole : Sp := fun vs H Q _ => ∃ (L : Nat) (o : Option (List Nat)) (n : Nat), vs = [.int L, oV o, .int n] ∧ L ≤ 26 ∧ OkO o ∧ n ≤ 100000 ∧ Q (.int (valO L o n : Nat)) H
def rdWhole : TS :=
    tSeq (tAsg (tC (.int 0)) (gName 3))
      (tSeq (tFor (iRng1 (tCons (tVar 2) tNil)) (gName 4) (tAsg (tOp rAddI (tOp rMulI (tVar 3) (tVar 0)) (tCall spFig [] E0 (tCons (tVar 1) (tCons (tVar 4) tNil)))) (gName 3)))
      (tRet (tVar 3)))
theorem read_whole {N : List Str} {vs : List V} {H : Hp} {Q : VK} {E : XK} (hN : N.length = 5) (h : spWhole vs H Q E) : rdWhole { nx := fun _ H' => Q .non H', rt := Q } (L2.start N vs) H := by
  obtain ⟨L, o, n, rfl, hL, ho, hn, q⟩ := h
  unfold rdWhole L2.start
  rw [hN]
  simp only [tCompSet, tRaise, tIsi, tSeq, tAsg, gName, tOp, tUn, tVar, tC, tTest, tB, tIf, tIfS, tAnd, tOr, tNot, tAndV, tOrV, tNotV, tRet, tRetN, tNext, tDrop, tCB, tCons, tNil, tBM, tBM0, tCall, tLst, tTup, tSl, tPart, tNoPart, tIsN, tNotN, tYes, tBreak, tCont, rI0, rI, rU, rEq, rNe, L2.start, compSt, List.map_cons, List.map_nil, List.length_cons, List.length_nil, List.replicate_succ, List.replicate_zero, List.cons_append, List.nil_append, List.append_nil, List.getElem?_cons_zero, List.getElem?_cons_succ, List.set_cons_zero, List.set_cons_succ, Option.some.injEq, Option.join_some, V.int.injEq, V.str.injEq, V.bl.injEq, V.ref.injEq, txt_inj, exists_eq_left', exists_eq_left, exists_and_left, and_true, true_and, decide_eq_true_eq, reduceCtorEq, decide_false, decide_true, Bool.not_false, Bool.not_true, if_true, if_false, Bool.false_eq_true, Nat.reduceAdd, Nat.reduceSub, Bool.not_eq_true', decide_eq_false_iff_not, not_true_eq_false, not_false_eq_true]
  refine for_r1 (j := n) (fun Q h => ⟨_, rfl, h⟩) (by omega) (by omega) (fun i σ H' => H' = H ∧ ∃ v4, σ = [some (.int L), some (oV o), some (.int n), some (.int (valO L o i : Nat)), v4]) ⟨rfl, _, by rw [valO_zero]; rfl⟩ ?_ ?_
  · rintro i σ H1 hi ⟨rfl, v4, rfl⟩
    simp only [tCompSet, tRaise, tIsi, tSeq, tAsg, gName, tOp, tUn, tVar, tC, tTest, tB, tIf, tIfS, tAnd, tOr, tNot, tAndV, tOrV, tNotV, tRet, tRetN, tNext, tDrop, tCB, tCons, tNil, tBM, tBM0, tCall, tLst, tTup, tSl, tPart, tNoPart, tIsN, tNotN, tYes, tBreak, tCont, rI0, rI, rU, rEq, rNe, L2.start, compSt, List.map_cons, List.map_nil, List.length_cons, List.length_nil, List.replicate_succ, List.replicate_zero, List.cons_append, List.nil_append, List.append_nil, List.getElem?_cons_zero, List.getElem?_cons_succ, List.set_cons_zero, List.set_cons_succ, Option.some.injEq, Option.join_some, V.int.injEq, V.str.injEq, V.bl.injEq, V.ref.injEq, txt_inj, exists_eq_left', exists_eq_left, exists_and_left, and_true, true_and, decide_eq_true_eq, reduceCtorEq, decide_false, decide_true, Bool.not_false, Bool.not_true, if_true, if_false, Bool.false_eq_true, Nat.reduceAdd, Nat.reduceSub, Bool.not_eq_true', decide_eq_false_iff_not, not_true_eq_false, not_false_eq_true]
    refine ⟨mulB_r (by omega) (by omega), o, i, rfl, ho, ?_⟩
    simp only [tCompSet, tRaise, tIsi, tSeq, tAsg, gName, tOp, tUn, tVar, tC, tTest, tB, tIf, tIfS, tAnd, tOr, tNot, tAndV, tOrV, tNotV, tRet, tRetN, tNext, tDrop, tCB, tCons, tNil, tBM, tBM0, tCall, tLst, tTup, tSl, tPart, tNoPart, tIsN, tNotN, tYes, tBreak, tCont, rI0, rI, rU, rEq, rNe, L2.start, compSt, List.map_cons, List.map_nil, List.length_cons, List.length_nil, List.replicate_succ, List.replicate_zero, List.cons_append, List.nil_append, List.append_nil, List.getElem?_cons_zero, List.getElem?_cons_succ, List.set_cons_zero, List.set_cons_succ, Option.some.injEq, Option.join_some, V.int.injEq, V.str.injEq, V.bl.injEq, V.ref.injEq, txt_inj, exists_eq_left', exists_eq_left, exists_and_left, and_true, true_and, decide_eq_true_eq, reduceCtorEq, decide_false, decide_true, Bool.not_false, Bool.not_true, if_true, if_false, Bool.false_eq_true, Nat.reduceAdd, Nat.reduceSub, Bool.not_eq_true', decide_eq_false_iff_not, not_true_eq_false, not_false_eq_true]
    exact ⟨some (.int i), by rw [valO_succ, Int.natCast_add, Int.natCast_mul]⟩
  · rintro σ H1 ⟨rfl, v4, rfl⟩
    simp only [tCompSet, tRaise, tIsi, tSeq, tAsg, gName, tOp, tUn, tVar, tC, tTest, tB, tIf, tIfS, tAnd, tOr, tNot, tAndV, tOrV, tNotV, tRet, tRetN, tNext, tDrop, tCB, tCons, tNil, tBM, tBM0, tCall, tLst, tTup, tSl, tPart, tNoPart, tIsN, tNotN, tYes, tBreak, tCont, rI0, rI, rU, rEq, rNe, L2.start, compSt, List.map_cons, List.map_nil, List.length_cons, List.length_nil, List.replicate_succ, List.replicate_zero, List.cons_append, List.nil_append, List.append_nil, List.getElem?_cons_zero, List.getElem?_cons_succ, List.set_cons_zero, List.set_cons_succ, Option.some.injEq, Option.join_some, V.int.injEq, V.str.injEq, V.bl.injEq, V.ref.injEq, txt_inj, exists_eq_left', exists_eq_left, exists_and_left, and_true, true_and, decide_eq_true_eq, reduceCtorEq, decide_false, decide_true, Bool.not_false, Bool.not_true, if_true, if_false, Bool.false_eq_true, Nat.reduceAdd, Nat.reduceSub, Bool.not_eq_true', decide_eq_false_iff_not, not_true_eq_false, not_false_eq_true]
    rw [Int.toNat_natCast]
    exact q
/-! ### mark_of -/
def spMarkOf : Sp := fun vs H Q _ => ∃ (L r n : Nat), vs = [.int L, .int r, .int n] ∧ 0 < L ∧ L ≤ 26 ∧ n ≤ 100000 ∧ Q (.str (txt (mk L r n))) H
def rdMarkOf (K : PySem.W.Frag) : TS :=
    tSeq (tAsg (tC (.str (txt []))) (gName 3))
      (tSeq (tAsg (tVar 1) (gName 4))
      (tSeq (tFor (iRng1 (tCons (tVar 2) tNil)) (gName 5) (tSeq (tAsg (tOp rAddS (tOp rIxStr (tC (.str (txt ABC))) (tOp rModI (tVar 4) (tVar 0))) (tVar 3)) (gName 3))
      (tAsg (tOp rDivI (tVar 4) (tVar 0)) (gName 4))))
      (tRet (tBM K "str" rRstrip (tVar 3) (tCons (tC (.str (txt [97]))) tNil)))))
theorem read_markOf {K : PySem.W.Frag} {N : List Str} {vs : List V} {H : Hp} {Q : VK} {E : XK} (hN : N.length = 6) (h : spMarkOf vs H Q E) : rdMarkOf K { nx := fun _ H' => Q .non H', rt := Q } (L2.start N vs) H := by
  obtain ⟨L, r, n, rfl, hL0, hL, hn, q⟩ := h
  unfold rdMarkOf L2.start
  rw [hN]
  simp only [tCompSet, tRaise, tIsi, tSeq, tAsg, gName, tOp, tUn, tVar, tC, tTest, tB, tIf, tIfS, tAnd, tOr, tNot, tAndV, tOrV, tNotV, tRet, tRetN, tNext, tDrop, tCB, tCons, tNil, tBM, tBM0, tCall, tLst, tTup, tSl, tPart, tNoPart, tIsN, tNotN, tYes, tBreak, tCont, rI0, rI, rU, rEq, rNe, L2.start, compSt, List.map_cons, List.map_nil, List.length_cons, List.length_nil, List.replicate_succ, List.replicate_zero, List.cons_append, List.nil_append, List.append_nil, List.getElem?_cons_zero, List.getElem?_cons_succ, List.set_cons_zero, List.set_cons_succ, Option.some.injEq, Option.join_some, V.int.injEq, V.str.injEq, V.bl.injEq, V.ref.injEq, txt_inj, exists_eq_left', exists_eq_left, exists_and_left, and_true, true_and, decide_eq_true_eq, reduceCtorEq, decide_false, decide_true, Bool.not_false, Bool.not_true, if_true, if_false, Bool.false_eq_true, Nat.reduceAdd, Nat.reduceSub, Bool.not_eq_true', decide_eq_false_iff_not, not_true_eq_false, not_false_eq_true]
  refine for_r1 (j := n) (fun Q h => ⟨_, rfl, h⟩) (by omega) (by omega) (fun i σ H' => H' = H ∧ ∃ v5, σ = [some (.int L), some (.int r), some (.int n), some (.str (txt (low L r i))), some (.int (r / L ^ i : Nat)), v5]) ⟨rfl, _, by rw [Nat.pow_zero, Nat.div_one]; rfl⟩ ?_ ?_
  · rintro i σ H1 hi ⟨rfl, v5, rfl⟩
    have e1 : ((r / L ^ i : Nat) : Int) % (L : Int) = ((r / L ^ i % L : Nat) : Int) := (Int.natCast_emod _ _).symm
    have e2 : ((r / L ^ i : Nat) : Int) / (L : Int) = ((r / L ^ (i + 1) : Nat) : Int) := by rw [Nat.pow_succ, ← Nat.div_div_eq_div_mul]; exact (Int.natCast_ediv _ _).symm
    have hb := Nat.mod_lt (r / L ^ i) hL0
    simp only [tCompSet, tRaise, tIsi, tSeq, tAsg, gName, tOp, tUn, tVar, tC, tTest, tB, tIf, tIfS, tAnd, tOr, tNot, tAndV, tOrV, tNotV, tRet, tRetN, tNext, tDrop, tCB, tCons, tNil, tBM, tBM0, tCall, tLst, tTup, tSl, tPart, tNoPart, tIsN, tNotN, tYes, tBreak, tCont, rI0, rI, rU, rEq, rNe, L2.start, compSt, List.map_cons, List.map_nil, List.length_cons, List.length_nil, List.replicate_succ, List.replicate_zero, List.cons_append, List.nil_append, List.append_nil, List.getElem?_cons_zero, List.getElem?_cons_succ, List.set_cons_zero, List.set_cons_succ, Option.some.injEq, Option.join_some, V.int.injEq, V.str.injEq, V.bl.injEq, V.ref.injEq, txt_inj, exists_eq_left', exists_eq_left, exists_and_left, and_true, true_and, decide_eq_true_eq, reduceCtorEq, decide_false, decide_true, Bool.not_false, Bool.not_true, if_true, if_false, Bool.false_eq_true, Nat.reduceAdd, Nat.reduceSub, Bool.not_eq_true', decide_eq_false_iff_not, not_true_eq_false, not_false_eq_true]
    rw [e1, e2]
    refine ⟨by omega, ixABC_go (by omega) (by omega) (addS_go (by rw [low_length]; simp only [List.length_cons, List.length_nil]; omega) ⟨cdiv (by omega) (by omega), ?_⟩)⟩
    exact ⟨rfl, some (.int i), by rw [Int.toNat_natCast]; rfl⟩
  · rintro σ H1 ⟨rfl, v5, rfl⟩
    simp only [tCompSet, tRaise, tIsi, tSeq, tAsg, gName, tOp, tUn, tVar, tC, tTest, tB, tIf, tIfS, tAnd, tOr, tNot, tAndV, tOrV, tNotV, tRet, tRetN, tNext, tDrop, tCB, tCons, tNil, tBM, tBM0, tCall, tLst, tTup, tSl, tPart, tNoPart, tIsN, tNotN, tYes, tBreak, tCont, rI0, rI, rU, rEq, rNe, L2.start, compSt, List.map_cons, List.map_nil, List.length_cons, List.length_nil, List.replicate_succ, List.replicate_zero, List.cons_append, List.nil_append, List.append_nil, List.getElem?_cons_zero, List.getElem?_cons_succ, List.set_cons_zero, List.set_cons_succ, Option.some.injEq, Option.join_some, V.int.injEq, V.str.injEq, V.bl.injEq, V.ref.injEq, txt_inj, exists_eq_left', exists_eq_left, exists_and_left, and_true, true_and, decide_eq_true_eq, reduceCtorEq, decide_false, decide_true, Bool.not_false, Bool.not_true, if_true, if_false, Bool.false_eq_true, Nat.reduceAdd, Nat.reduceSub, Bool.not_eq_true', decide_eq_false_iff_not, not_true_eq_false, not_false_eq_true]
    rw [Int.toNat_natCast]
    exact ⟨rfl, rstrip_go (by rw [low_length]; exact hn) q⟩
/-! ### is_mark -/
end L2

set_option Elab.async false
set_option linter.all false
set_option maxRecDepth 100000
set_option maxHeartbeats 4000000
namespace L2
open PySem PySem.Spec PyProof.Rows MM
theorem Same.set {H H' : Hp} {p : Addr} {o : HO} (s : Same H H') (hp : H p = none) : Same H (upd H' p o) := fun b q e => by
  have := s b q e
  rw [upd_ne (ne_of_none e hp)]; exact this
/-- for x in range(j), j drawn -/
theorem for_rq {ta : TA} {g : TG} {tb : TS} {D : Ends} {σ : St} {H : Hp} {C : Int → Prop} (ha : ∀ Q : List V → Hp → Prop, (∀ j, C j → Q [.int j] H) → ta σ H Q) (hb : ∀ j, C j → -(2 ^ 62) ≤ j ∧ j < 2 ^ 62)
    (h : ∀ j, C j → ∃ Pv : Nat → St → Hp → Prop, Pv 0 σ H ∧ (∀ (i : Nat) σ H, (i : Int) < j → Pv i σ H → g (.int i) σ H fun σ2 H2 => tb { D with nx := Pv (i + 1), ct := Pv (i + 1), bk := D.nx } σ2 H2) ∧ ∀ σ H, Pv j.toNat σ H → D.nx σ H) : tFor (iRng1 ta) g tb D σ H := by
  refine ha _ fun j hj => ⟨j, rfl, (hb j hj).1, (hb j hj).2, ?_⟩
  obtain ⟨Pv, h0, hs, hd⟩ := h j hj
  refine for_range (lo := 0) (n := j.toNat) Pv h0 (fun i σ H hi p => ?_) hd
  rw [Int.zero_add]
  exact hs i σ H (by omega) p
theorem some_at {α : Type} {l : List α} {i : Nat} (h : i < l.length) : ∃ c, l[i]? = some c := ⟨l[i], List.getElem?_eq_getElem h⟩
/-- the law's own reading of a mark -/
def spLWhole : Sp := fun vs H Q _ => ∃ (L : Nat) (l : List Nat) (n : Nat), vs = [.int L, .str (txt l), .int n] ∧ L ≤ 26 ∧ Ls 26 l ∧ l.length ≤ 100000 ∧ n ≤ 100000 ∧ Q (.int (val L l n : Nat)) H
def rdLWhole (K : PySem.W.Frag) : TS :=
    tSeq (tAsg (tC (.int 0)) (gName 3))
      (tSeq (tFor (iRng1 (tCons (tVar 2) tNil)) (gName 4) (tSeq (tAsg (tC (.int 0)) (gName 5))
      (tSeq (tIfS (tTest (tOp rLtI (tVar 4) (tCB rLenS (tCons (tVar 1) tNil)))) (tAsg (tBM K "str" rIndex (tC (.str (txt ABC))) (tCons (tOp rIxStr (tVar 1) (tVar 4)) tNil)) (gName 5)) (tNext))
      (tAsg (tOp rAddI (tOp rMulI (tVar 3) (tVar 0)) (tVar 5)) (gName 3)))))
      (tRet (tVar 3)))
theorem read_lwhole {K : PySem.W.Frag} {N : List Str} {vs : List V} {H : Hp} {Q : VK} {E : XK} (hN : N.length = 6) (h : spLWhole vs H Q E) : rdLWhole K { nx := fun _ H' => Q .non H', rt := Q } (L2.start N vs) H := by
  obtain ⟨L, l, n, rfl, hL, hl, hz, hn, q⟩ := h
  unfold rdLWhole L2.start
  rw [hN]
  simp only [tCompSet, tRaise, tIsi, tSeq, tAsg, gName, tOp, tUn, tVar, tC, tTest, tB, tIf, tIfS, tAnd, tOr, tNot, tAndV, tOrV, tNotV, tRet, tRetN, tNext, tDrop, tCB, tCons, tNil, tBM, tBM0, tCall, tLst, tTup, tSl, tPart, tNoPart, tIsN, tNotN, tYes, tBreak, tCont, rI0, rI, rU, rEq, rNe, L2.start, compSt, List.map_cons, List.map_nil, List.length_cons, List.length_nil, List.replicate_succ, List.replicate_zero, List.cons_append, List.nil_append, List.append_nil, List.getElem?_cons_zero, List.getElem?_cons_succ, List.set_cons_zero, List.set_cons_succ, Option.some.injEq, Option.join_some, V.int.injEq, V.str.injEq, V.bl.injEq, V.ref.injEq, txt_inj, exists_eq_left', exists_eq_left, exists_and_left, and_true, true_and, decide_eq_true_eq, reduceCtorEq, decide_false, decide_true, Bool.not_false, Bool.not_true, if_true, if_false, Bool.false_eq_true, Nat.reduceAdd, Nat.reduceSub, Bool.not_eq_true', decide_eq_false_iff_not, not_true_eq_false, not_false_eq_true]
  refine for_r1 (j := n) (fun Q h => ⟨_, rfl, h⟩) (by omega) (by omega) (fun i σ H' => H' = H ∧ ∃ v4 v5, σ = [some (.int L), some (.str (txt l)), some (.int n), some (.int (val L l i : Nat)), v4, v5]) ⟨rfl, _, _, by rw [val_zero]; rfl⟩ ?_ ?_
  · rintro i σ H1 hi ⟨rfl, v4, v5, rfl⟩
    simp only [tCompSet, tRaise, tIsi, tSeq, tAsg, gName, tOp, tUn, tVar, tC, tTest, tB, tIf, tIfS, tAnd, tOr, tNot, tAndV, tOrV, tNotV, tRet, tRetN, tNext, tDrop, tCB, tCons, tNil, tBM, tBM0, tCall, tLst, tTup, tSl, tPart, tNoPart, tIsN, tNotN, tYes, tBreak, tCont, rI0, rI, rU, rEq, rNe, L2.start, compSt, List.map_cons, List.map_nil, List.length_cons, List.length_nil, List.replicate_succ, List.replicate_zero, List.cons_append, List.nil_append, List.append_nil, List.getElem?_cons_zero, List.getElem?_cons_succ, List.set_cons_zero, List.set_cons_succ, Option.some.injEq, Option.join_some, V.int.injEq, V.str.injEq, V.bl.injEq, V.ref.injEq, txt_inj, exists_eq_left', exists_eq_left, exists_and_left, and_true, true_and, decide_eq_true_eq, reduceCtorEq, decide_false, decide_true, Bool.not_false, Bool.not_true, if_true, if_false, Bool.false_eq_true, Nat.reduceAdd, Nat.reduceSub, Bool.not_eq_true', decide_eq_false_iff_not, not_true_eq_false, not_false_eq_true]
    refine lenS_go hz ⟨_, rfl, ?_⟩
    by_cases hi2 : i < l.length
    · rw [if_pos (by omega)]
      have hc := hl l[i] (List.getElem_mem hi2)
      refine ⟨rfl, ixS_go hz (by omega) (by simp [hi2]) (idxABC_go hc.1 hc.2 ⟨mulB_r (by omega) (by omega), _, rfl, rfl, some (.int i), some (.int (l[i] - 97 : Nat)), ?_⟩)⟩
      rw [val_succ, Int.natCast_add, Int.natCast_mul]
      simp [fig, hi2]
    · rw [if_neg (by omega)]
      refine ⟨mulB_r (by omega) (by omega), rfl, some (.int i), some (.int 0), ?_⟩
      rw [val_succ, Int.natCast_add, Int.natCast_mul]
      simp [fig, List.getElem?_eq_none (Nat.le_of_not_lt hi2)]
  · rintro σ H1 ⟨rfl, v4, v5, rfl⟩
    simp only [tCompSet, tRaise, tIsi, tSeq, tAsg, gName, tOp, tUn, tVar, tC, tTest, tB, tIf, tIfS, tAnd, tOr, tNot, tAndV, tOrV, tNotV, tRet, tRetN, tNext, tDrop, tCB, tCons, tNil, tBM, tBM0, tCall, tLst, tTup, tSl, tPart, tNoPart, tIsN, tNotN, tYes, tBreak, tCont, rI0, rI, rU, rEq, rNe, L2.start, compSt, List.map_cons, List.map_nil, List.length_cons, List.length_nil, List.replicate_succ, List.replicate_zero, List.cons_append, List.nil_append, List.append_nil, List.getElem?_cons_zero, List.getElem?_cons_succ, List.set_cons_zero, List.set_cons_succ, Option.some.injEq, Option.join_some, V.int.injEq, V.str.injEq, V.bl.injEq, V.ref.injEq, txt_inj, exists_eq_left', exists_eq_left, exists_and_left, and_true, true_and, decide_eq_true_eq, reduceCtorEq, decide_false, decide_true, Bool.not_false, Bool.not_true, if_true, if_false, Bool.false_eq_true, Nat.reduceAdd, Nat.reduceSub, Bool.not_eq_true', decide_eq_false_iff_not, not_true_eq_false, not_false_eq_true]
    rw [Int.toNat_natCast]
    exact q
end L2

set_option Elab.async false
set_option linter.all false
set_option maxRecDepth 100000
set_option maxHeartbeats 4000000
namespace L2
open PySem PySem.Spec PyProof.Rows MM
/-! ### power -/
def spPower : Sp := fun vs H Q _ => ∃ (L n : Nat), vs = [.int L, .int n] ∧ L ≤ 26 ∧ n ≤ 100000 ∧ Q (.int (L ^ n : Nat)) H
def rdPower : TS :=
    tSeq (tAsg (tC (.int 1)) (gName 2))
      (tSeq (tFor (iRng1 (tCons (tVar 1) tNil)) (gName 3) (tAsg (tOp rMulI (tVar 2) (tVar 0)) (gName 2)))
      (tRet (tVar 2)))
theorem read_power {N : List Str} {vs : List V} {H : Hp} {Q : VK} {E : XK} (hN : N.length = 4) (h : spPower vs H Q E) : rdPower { nx := fun _ H' => Q .non H', rt := Q } (L2.start N vs) H := by
  obtain ⟨L, n, rfl, hL, hn, q⟩ := h
  unfold rdPower L2.start
  rw [hN]
  simp only [tCompSet, tRaise, tIsi, tSeq, tAsg, gName, tOp, tUn, tVar, tC, tTest, tB, tIf, tIfS, tAnd, tOr, tNot, tAndV, tOrV, tNotV, tRet, tRetN, tNext, tDrop, tCB, tCons, tNil, tBM, tBM0, tCall, tLst, tTup, tSl, tPart, tNoPart, tIsN, tNotN, tYes, tBreak, tCont, rI0, rI, rU, rEq, rNe, L2.start, compSt, List.map_cons, List.map_nil, List.length_cons, List.length_nil, List.replicate_succ, List.replicate_zero, List.cons_append, List.nil_append, List.append_nil, List.getElem?_cons_zero, List.getElem?_cons_succ, List.set_cons_zero, List.set_cons_succ, Option.some.injEq, Option.join_some, V.int.injEq, V.str.injEq, V.bl.injEq, V.ref.injEq, txt_inj, exists_eq_left', exists_eq_left, exists_and_left, and_true, true_and, decide_eq_true_eq, reduceCtorEq, decide_false, decide_true, Bool.not_false, Bool.not_true, if_true, if_false, Bool.false_eq_true, Nat.reduceAdd, Nat.reduceSub, Bool.not_eq_true', decide_eq_false_iff_not, not_true_eq_false, not_false_eq_true]
  refine for_r1 (j := n) (fun Q h => ⟨_, rfl, h⟩) (by omega) (by omega) (fun i σ H' => H' = H ∧ ∃ v3, σ = [some (.int L), some (.int n), some (.int (L ^ i : Nat)), v3]) ⟨rfl, _, rfl⟩ ?_ ?_
  · rintro i σ H1 hi ⟨rfl, v3, rfl⟩
    simp only [tCompSet, tRaise, tIsi, tSeq, tAsg, gName, tOp, tUn, tVar, tC, tTest, tB, tIf, tIfS, tAnd, tOr, tNot, tAndV, tOrV, tNotV, tRet, tRetN, tNext, tDrop, tCB, tCons, tNil, tBM, tBM0, tCall, tLst, tTup, tSl, tPart, tNoPart, tIsN, tNotN, tYes, tBreak, tCont, rI0, rI, rU, rEq, rNe, L2.start, compSt, List.map_cons, List.map_nil, List.length_cons, List.length_nil, List.replicate_succ, List.replicate_zero, List.cons_append, List.nil_append, List.append_nil, List.getElem?_cons_zero, List.getElem?_cons_succ, List.set_cons_zero, List.set_cons_succ, Option.some.injEq, Option.join_some, V.int.injEq, V.str.injEq, V.bl.injEq, V.ref.injEq, txt_inj, exists_eq_left', exists_eq_left, exists_and_left, and_true, true_and, decide_eq_true_eq, reduceCtorEq, decide_false, decide_true, Bool.not_false, Bool.not_true, if_true, if_false, Bool.false_eq_true, Nat.reduceAdd, Nat.reduceSub, Bool.not_eq_true', decide_eq_false_iff_not, not_true_eq_false, not_false_eq_true]
    exact ⟨mulB_r (by omega) (by omega), some (.int i), by rw [Nat.pow_succ, Int.natCast_mul]⟩
  · rintro σ H1 ⟨rfl, v3, rfl⟩
    simp only [tCompSet, tRaise, tIsi, tSeq, tAsg, gName, tOp, tUn, tVar, tC, tTest, tB, tIf, tIfS, tAnd, tOr, tNot, tAndV, tOrV, tNotV, tRet, tRetN, tNext, tDrop, tCB, tCons, tNil, tBM, tBM0, tCall, tLst, tTup, tSl, tPart, tNoPart, tIsN, tNotN, tYes, tBreak, tCont, rI0, rI, rU, rEq, rNe, L2.start, compSt, List.map_cons, List.map_nil, List.length_cons, List.length_nil, List.replicate_succ, List.replicate_zero, List.cons_append, List.nil_append, List.append_nil, List.getElem?_cons_zero, List.getElem?_cons_succ, List.set_cons_zero, List.set_cons_succ, Option.some.injEq, Option.join_some, V.int.injEq, V.str.injEq, V.bl.injEq, V.ref.injEq, txt_inj, exists_eq_left', exists_eq_left, exists_and_left, and_true, true_and, decide_eq_true_eq, reduceCtorEq, decide_false, decide_true, Bool.not_false, Bool.not_true, if_true, if_false, Bool.false_eq_true, Nat.reduceAdd, Nat.reduceSub, Bool.not_eq_true', decide_eq_false_iff_not, not_true_eq_false, not_false_eq_true]
    rw [Int.toNat_natCast]
    exact q
/-! ### high_whole_of -/
def highO (L : Nat) : Option (List Nat) → Nat → Nat
  | none, n => L ^ n
  | some h, n => val L h n
def spHigh : Sp := fun vs H Q _ => ∃ (L : Nat) (o : Option (List Nat)) (n : Nat), vs = [.int L, oV o, .int n] ∧ L ≤ 26 ∧ OkO o ∧ n ≤ 100000 ∧ Q (.int (highO L o n : Nat)) H
def rdHigh : TS :=
    tSeq (tIfS (tB (tIsN (tVar 1))) (tRet (tCall spPower [] E0 (tCons (tVar 0) (tCons (tVar 2) tNil)))) (tNext))
      (tRet (tCall spWhole [] E0 (tCons (tVar 0) (tCons (tVar 1) (tCons (tVar 2) tNil)))))
theorem read_high {N : List Str} {vs : List V} {H : Hp} {Q : VK} {E : XK} (hN : N.length = 3) (h : spHigh vs H Q E) : rdHigh { nx := fun _ H' => Q .non H', rt := Q } (L2.start N vs) H := by
  obtain ⟨L, o, n, rfl, hL, ho, hn, q⟩ := h
  unfold rdHigh L2.start
  rw [hN]
  cases o with
  | none =>
    simp only [oV, tCompSet, tRaise, tIsi, tSeq, tAsg, gName, tOp, tUn, tVar, tC, tTest, tB, tIf, tIfS, tAnd, tOr, tNot, tAndV, tOrV, tNotV, tRet, tRetN, tNext, tDrop, tCB, tCons, tNil, tBM, tBM0, tCall, tLst, tTup, tSl, tPart, tNoPart, tIsN, tNotN, tYes, tBreak, tCont, rI0, rI, rU, rEq, rNe, L2.start, compSt, List.map_cons, List.map_nil, List.length_cons, List.length_nil, List.replicate_succ, List.replicate_zero, List.cons_append, List.nil_append, List.append_nil, List.getElem?_cons_zero, List.getElem?_cons_succ, List.set_cons_zero, List.set_cons_succ, Option.some.injEq, Option.join_some, V.int.injEq, V.str.injEq, V.bl.injEq, V.ref.injEq, txt_inj, exists_eq_left', exists_eq_left, exists_and_left, and_true, true_and, decide_eq_true_eq, reduceCtorEq, decide_false, decide_true, Bool.not_false, Bool.not_true, if_true, if_false, Bool.false_eq_true, Nat.reduceAdd, Nat.reduceSub, Bool.not_eq_true', decide_eq_false_iff_not, not_true_eq_false, not_false_eq_true]
    exact ⟨L, n, rfl, hL, hn, q⟩
  | some h =>
    simp only [oV, tCompSet, tRaise, tIsi, tSeq, tAsg, gName, tOp, tUn, tVar, tC, tTest, tB, tIf, tIfS, tAnd, tOr, tNot, tAndV, tOrV, tNotV, tRet, tRetN, tNext, tDrop, tCB, tCons, tNil, tBM, tBM0, tCall, tLst, tTup, tSl, tPart, tNoPart, tIsN, tNotN, tYes, tBreak, tCont, rI0, rI, rU, rEq, rNe, L2.start, compSt, List.map_cons, List.map_nil, List.length_cons, List.length_nil, List.replicate_succ, List.replicate_zero, List.cons_append, List.nil_append, List.append_nil, List.getElem?_cons_zero, List.getElem?_cons_succ, List.set_cons_zero, List.set_cons_succ, Option.some.injEq, Option.join_some, V.int.injEq, V.str.injEq, V.bl.injEq, V.ref.injEq, txt_inj, exists_eq_left', exists_eq_left, exists_and_left, and_true, true_and, decide_eq_true_eq, reduceCtorEq, decide_false, decide_true, Bool.not_false, Bool.not_true, if_true, if_false, Bool.false_eq_true, Nat.reduceAdd, Nat.reduceSub, Bool.not_eq_true', decide_eq_false_iff_not, not_true_eq_false, not_false_eq_true]
    exact ⟨L, some h, n, rfl, hL, ho, hn, q⟩
/-! ### owned_below -/
def spBelow : Sp := fun vs H Q _ => ∃ (L : Nat) (es : List Nat) (n : Nat), vs = [.int L, .str (txt es), .int n] ∧ 0 < L ∧ L ≤ 26 ∧ es.length ≤ 26 ∧ ∀ H', Same H H' → Q (.int (ob L es n : Nat)) H'
def rdBelow (K : PySem.W.Frag) : TS :=
    tSeq (tCompSet 3 (iStr (tVar 1)) [2, 0] (tTest (tOp rLtS (tVar 0) (tOp rIxStr (tC (.str (txt ABC))) (tOp rModI (tVar 1) (tVar 2))))) (tVar 0))
      (tRet (tOp rAddI (tOp rMulI (tOp rDivI (tVar 2) (tVar 0)) (tCB rLenS (tCons (tVar 1) tNil))) (tCB (rLenL K) (tCons (tVar 3) tNil))))
theorem one_lt (a b : Nat) : ([a] < [b]) ↔ a < b := by
  rw [List.cons_lt_cons_iff]
  constructor
  · rintro (h | ⟨_, h⟩)
    · exact h
    · exact absurd h (List.not_lt_nil _)
  · exact .inl
theorem read_below {K : PySem.W.Frag} {N : List Str} {vs : List V} {H : Hp} {Q : VK} {E : XK} (hN : N.length = 4) (h : spBelow vs H Q E) : rdBelow K { nx := fun _ H' => Q .non H', rt := Q } (L2.start N vs) H := by
  obtain ⟨L, es, n, rfl, hL0, hL, hes, q⟩ := h
  unfold rdBelow L2.start
  rw [hN]
  have hm := Nat.mod_lt n hL0
  have e1 : (n : Int) % (L : Int) = ((n % L : Nat) : Int) := (Int.natCast_emod _ _).symm
  have e2 : (n : Int) / (L : Int) = ((n / L : Nat) : Int) := (Int.natCast_ediv _ _).symm
  simp only [tCompSet, tRaise, tIsi, tSeq, tAsg, gName, tOp, tUn, tVar, tC, tTest, tB, tIf, tIfS, tAnd, tOr, tNot, tAndV, tOrV, tNotV, tRet, tRetN, tNext, tDrop, tCB, tCons, tNil, tBM, tBM0, tCall, tLst, tTup, tSl, tPart, tNoPart, tIsN, tNotN, tYes, tBreak, tCont, rI0, rI, rU, rEq, rNe, L2.start, compSt, List.map_cons, List.map_nil, List.length_cons, List.length_nil, List.replicate_succ, List.replicate_zero, List.cons_append, List.nil_append, List.append_nil, List.getElem?_cons_zero, List.getElem?_cons_succ, List.set_cons_zero, List.set_cons_succ, Option.some.injEq, Option.join_some, V.int.injEq, V.str.injEq, V.bl.injEq, V.ref.injEq, txt_inj, exists_eq_left', exists_eq_left, exists_and_left, and_true, true_and, decide_eq_true_eq, reduceCtorEq, decide_false, decide_true, Bool.not_false, Bool.not_true, if_true, if_false, Bool.false_eq_true, Nat.reduceAdd, Nat.reduceSub, Bool.not_eq_true', decide_eq_false_iff_not, not_true_eq_false, not_false_eq_true]
  refine comp_s (l := es) (fun Q h => ⟨_, rfl, h⟩) (Nat.le_trans (show es.length ≤ 100000 by omega) (by decide)) (fun i ys H' => H' = H ∧ ys = ((es.take i).filter fun e => decide (e < 97 + n % L)).map (fun c => strV [c])) ⟨rfl, rfl⟩
    (fun i ys H' _ p => by rw [p.2, List.length_map]; exact Nat.le_trans (List.length_filter_le _ _) (by rw [List.length_take]; omega)) ?_ ?_
  · rintro i c ys H' hc ⟨rfl, rfl⟩ R hR
    simp only [tCompSet, tRaise, tIsi, tSeq, tAsg, gName, tOp, tUn, tVar, tC, tTest, tB, tIf, tIfS, tAnd, tOr, tNot, tAndV, tOrV, tNotV, tRet, tRetN, tNext, tDrop, tCB, tCons, tNil, tBM, tBM0, tCall, tLst, tTup, tSl, tPart, tNoPart, tIsN, tNotN, tYes, tBreak, tCont, rI0, rI, rU, rEq, rNe, L2.start, compSt, List.map_cons, List.map_nil, List.length_cons, List.length_nil, List.replicate_succ, List.replicate_zero, List.cons_append, List.nil_append, List.append_nil, List.getElem?_cons_zero, List.getElem?_cons_succ, List.set_cons_zero, List.set_cons_succ, Option.some.injEq, Option.join_some, V.int.injEq, V.str.injEq, V.bl.injEq, V.ref.injEq, txt_inj, exists_eq_left', exists_eq_left, exists_and_left, and_true, true_and, decide_eq_true_eq, reduceCtorEq, decide_false, decide_true, Bool.not_false, Bool.not_true, if_true, if_false, Bool.false_eq_true, Nat.reduceAdd, Nat.reduceSub, Bool.not_eq_true', decide_eq_false_iff_not, not_true_eq_false, not_false_eq_true]
    rw [e1]
    refine ⟨by omega, ixABC_go (by omega) (by omega) ⟨_, _, rfl, rfl, _, rfl, ?_⟩⟩
    rw [Int.toNat_natCast]
    rw [List.take_succ, hc, List.filter_append, List.map_append] at hR
    by_cases hlt : c < 97 + n % L
    · rw [decide_eq_true ((one_lt _ _).mpr hlt), if_pos rfl]
      refine hR _ _ ⟨rfl, ?_⟩
      show _ = _ ++ List.map _ (List.filter _ [c])
      rw [List.filter_cons_of_pos (by simpa using hlt)]; rfl
    · rw [decide_eq_false (fun z => hlt ((one_lt _ _).mp z)), if_neg (by decide)]
      refine hR _ _ ⟨rfl, ?_⟩
      show _ = _ ++ List.map _ (List.filter _ [c])
      rw [List.filter_cons_of_neg (by simpa using hlt)]; simp
  · rintro ys H' ⟨rfl, rfl⟩ p hp
    rw [e2]
    refine ⟨cdiv (by omega) (by omega), lenS_go (by omega) ⟨_, rfl, mulB_r (by omega) (by omega), ?_⟩⟩
    refine lenL_go SqL.here ⟨_, rfl, ?_⟩
    rw [List.length_map, List.take_length]
    have := q _ (Same.up H' hp (o := HO.lst ((es.filter fun e => decide (e < 97 + n % L)).map (fun c => strV [c]))))
    unfold ob MM.cnt at this
    rw [Int.natCast_add, Int.natCast_mul] at this
    exact this
/-! ### owned_up_to_low, owned_ahead_of_high -/
def spUpLow : Sp := fun vs H Q _ => ∃ (L : Nat) (es : List Nat) (n : Nat), vs = [.int L, .str (txt es), .int n] ∧ 0 < L ∧ L ≤ 26 ∧ es.length ≤ 26 ∧ ∀ H', Same H H' → Q (.int (ob L es (n + 1) : Nat)) H'
def rdUpLow : TS := tRet (tCall spBelow [] E0 (tCons (tVar 0) (tCons (tVar 1) (tCons (tOp rAddI (tVar 2) (tC (.int 1))) tNil))))
theorem read_upLow {N : List Str} {vs : List V} {H : Hp} {Q : VK} {E : XK} (hN : N.length = 3) (h : spUpLow vs H Q E) : rdUpLow { nx := fun _ H' => Q .non H', rt := Q } (L2.start N vs) H := by
  obtain ⟨L, es, n, rfl, hL0, hL, hes, q⟩ := h
  unfold rdUpLow L2.start
  rw [hN]
  simp only [tCompSet, tRaise, tIsi, tSeq, tAsg, gName, tOp, tUn, tVar, tC, tTest, tB, tIf, tIfS, tAnd, tOr, tNot, tAndV, tOrV, tNotV, tRet, tRetN, tNext, tDrop, tCB, tCons, tNil, tBM, tBM0, tCall, tLst, tTup, tSl, tPart, tNoPart, tIsN, tNotN, tYes, tBreak, tCont, rI0, rI, rU, rEq, rNe, L2.start, compSt, List.map_cons, List.map_nil, List.length_cons, List.length_nil, List.replicate_succ, List.replicate_zero, List.cons_append, List.nil_append, List.append_nil, List.getElem?_cons_zero, List.getElem?_cons_succ, List.set_cons_zero, List.set_cons_succ, Option.some.injEq, Option.join_some, V.int.injEq, V.str.injEq, V.bl.injEq, V.ref.injEq, txt_inj, exists_eq_left', exists_eq_left, exists_and_left, and_true, true_and, decide_eq_true_eq, reduceCtorEq, decide_false, decide_true, Bool.not_false, Bool.not_true, if_true, if_false, Bool.false_eq_true, Nat.reduceAdd, Nat.reduceSub, Bool.not_eq_true', decide_eq_false_iff_not, not_true_eq_false, not_false_eq_true]
  exact ⟨L, es, n + 1, rfl, hL0, hL, hes, q⟩
def aheadN : Option (List Nat) → Nat → Nat → Nat
  | none, w, _ => w
  | some h, w, n => if n < h.length then w + 1 else w
/-- with high's own beginnings, or without -/
def aheadB (b : Bool) (o : Option (List Nat)) (w n : Nat) : Nat := if b = true then aheadN o w n else w
def spAhead : Sp := fun vs H Q _ => ∃ (L : Nat) (es : List Nat) (o : Option (List Nat)) (w n : Nat) (b : Bool), vs = [.int L, .str (txt es), oV o, .int w, .int n, .bl b] ∧ 0 < L ∧ L ≤ 26 ∧ es.length ≤ 26 ∧ OkO o ∧ ∀ H', Same H H' → Q (.int (ob L es (aheadB b o w n) : Nat)) H'
def rdAhead : TS :=
    tSeq (tIfS (tAnd (tB (tVar 5)) (tAnd (tB (tNotN (tVar 2))) (tTest (tOp rLtI (tVar 4) (tCB rLenS (tCons (tVar 2) tNil)))))) (tRet (tCall spBelow [] E0 (tCons (tVar 0) (tCons (tVar 1) (tCons (tOp rAddI (tVar 3) (tC (.int 1))) tNil))))) (tNext))
      (tRet (tCall spBelow [] E0 (tCons (tVar 0) (tCons (tVar 1) (tCons (tVar 3) tNil)))))
theorem read_ahead {N : List Str} {vs : List V} {H : Hp} {Q : VK} {E : XK} (hN : N.length = 6) (h : spAhead vs H Q E) : rdAhead { nx := fun _ H' => Q .non H', rt := Q } (L2.start N vs) H := by
  obtain ⟨L, es, o, w, n, b, rfl, hL0, hL, hes, ho, q⟩ := h
  unfold rdAhead L2.start
  rw [hN]
  cases b with
  | false =>
    simp only [tCompSet, tRaise, tIsi, tSeq, tAsg, gName, tOp, tUn, tVar, tC, tTest, tB, tIf, tIfS, tAnd, tOr, tNot, tAndV, tOrV, tNotV, tRet, tRetN, tNext, tDrop, tCB, tCons, tNil, tBM, tBM0, tCall, tLst, tTup, tSl, tPart, tNoPart, tIsN, tNotN, tYes, tBreak, tCont, rI0, rI, rU, rEq, rNe, L2.start, compSt, List.map_cons, List.map_nil, List.length_cons, List.length_nil, List.replicate_succ, List.replicate_zero, List.cons_append, List.nil_append, List.append_nil, List.getElem?_cons_zero, List.getElem?_cons_succ, List.set_cons_zero, List.set_cons_succ, Option.some.injEq, Option.join_some, V.int.injEq, V.str.injEq, V.bl.injEq, V.ref.injEq, txt_inj, exists_eq_left', exists_eq_left, exists_and_left, and_true, true_and, decide_eq_true_eq, reduceCtorEq, decide_false, decide_true, Bool.not_false, Bool.not_true, if_true, if_false, Bool.false_eq_true, Nat.reduceAdd, Nat.reduceSub, Bool.not_eq_true', decide_eq_false_iff_not, not_true_eq_false, not_false_eq_true]
    exact ⟨L, es, w, rfl, hL0, hL, hes, q⟩
  | true =>
    cases o with
    | none =>
      simp only [oV, tCompSet, tRaise, tIsi, tSeq, tAsg, gName, tOp, tUn, tVar, tC, tTest, tB, tIf, tIfS, tAnd, tOr, tNot, tAndV, tOrV, tNotV, tRet, tRetN, tNext, tDrop, tCB, tCons, tNil, tBM, tBM0, tCall, tLst, tTup, tSl, tPart, tNoPart, tIsN, tNotN, tYes, tBreak, tCont, rI0, rI, rU, rEq, rNe, L2.start, compSt, List.map_cons, List.map_nil, List.length_cons, List.length_nil, List.replicate_succ, List.replicate_zero, List.cons_append, List.nil_append, List.append_nil, List.getElem?_cons_zero, List.getElem?_cons_succ, List.set_cons_zero, List.set_cons_succ, Option.some.injEq, Option.join_some, V.int.injEq, V.str.injEq, V.bl.injEq, V.ref.injEq, txt_inj, exists_eq_left', exists_eq_left, exists_and_left, and_true, true_and, decide_eq_true_eq, reduceCtorEq, decide_false, decide_true, Bool.not_false, Bool.not_true, if_true, if_false, Bool.false_eq_true, Nat.reduceAdd, Nat.reduceSub, Bool.not_eq_true', decide_eq_false_iff_not, not_true_eq_false, not_false_eq_true]
      exact ⟨L, es, w, rfl, hL0, hL, hes, q⟩
    | some h =>
      simp only [oV, tCompSet, tRaise, tIsi, tSeq, tAsg, gName, tOp, tUn, tVar, tC, tTest, tB, tIf, tIfS, tAnd, tOr, tNot, tAndV, tOrV, tNotV, tRet, tRetN, tNext, tDrop, tCB, tCons, tNil, tBM, tBM0, tCall, tLst, tTup, tSl, tPart, tNoPart, tIsN, tNotN, tYes, tBreak, tCont, rI0, rI, rU, rEq, rNe, L2.start, compSt, List.map_cons, List.map_nil, List.length_cons, List.length_nil, List.replicate_succ, List.replicate_zero, List.cons_append, List.nil_append, List.append_nil, List.getElem?_cons_zero, List.getElem?_cons_succ, List.set_cons_zero, List.set_cons_succ, Option.some.injEq, Option.join_some, V.int.injEq, V.str.injEq, V.bl.injEq, V.ref.injEq, txt_inj, exists_eq_left', exists_eq_left, exists_and_left, and_true, true_and, decide_eq_true_eq, reduceCtorEq, decide_false, decide_true, Bool.not_false, Bool.not_true, if_true, if_false, Bool.false_eq_true, Nat.reduceAdd, Nat.reduceSub, Bool.not_eq_true', decide_eq_false_iff_not, not_true_eq_false, not_false_eq_true]
      refine lenS_go ho.2 ⟨_, rfl, ?_⟩
      have ea : aheadB true (some h) w n = if n < h.length then w + 1 else w := rfl
      rw [ea] at q
      by_cases hn : n < h.length
      · rw [if_pos (by omega)]
        rw [if_pos hn] at q
        exact ⟨L, es, w + 1, rfl, hL0, hL, hes, q⟩
      · rw [if_neg (by omega)]
        rw [if_neg hn] at q
        exact ⟨L, es, w, rfl, hL0, hL, hes, q⟩
/-! ### ask_room -/
def OkLH (lo hi : Option (List Nat)) : Prop := ∀ l h, lo = some l → hi = some h → l < h
def spAskRoom (c : Addr) : Sp := fun vs H Q E => ∃ lo hi : Option (List Nat), vs = [oV lo, oV hi] ∧ (OkLH lo hi → Q .non H) ∧ (¬ OkLH lo hi → E (.ref c) none H)
def rdAskRoom (c : Addr) (E : XK) (m : List Nat) : TS :=
    tIfS (tAnd (tB (tNotN (tVar 0))) (tAnd (tB (tNotN (tVar 1))) (tTest (tOp rGeS (tVar 0) (tVar 1))))) (tRaise (.ref c) E (tCons (tC (.str (txt m))) tNil)) (tNext)
theorem read_askRoom {c : Addr} {m : List Nat} {N : List Str} {vs : List V} {H : Hp} {Q : VK} {E : XK} (hN : N.length = 2) (h : spAskRoom c vs H Q E) : rdAskRoom c E m { nx := fun _ H' => Q .non H', rt := Q } (L2.start N vs) H := by
  obtain ⟨lo, hi, rfl, q1, q2⟩ := h
  unfold rdAskRoom L2.start
  rw [hN]
  cases lo with
  | none =>
    simp only [oV, tCompSet, tRaise, tIsi, tSeq, tAsg, gName, tOp, tUn, tVar, tC, tTest, tB, tIf, tIfS, tAnd, tOr, tNot, tAndV, tOrV, tNotV, tRet, tRetN, tNext, tDrop, tCB, tCons, tNil, tBM, tBM0, tCall, tLst, tTup, tSl, tPart, tNoPart, tIsN, tNotN, tYes, tBreak, tCont, rI0, rI, rU, rEq, rNe, L2.start, compSt, List.map_cons, List.map_nil, List.length_cons, List.length_nil, List.replicate_succ, List.replicate_zero, List.cons_append, List.nil_append, List.append_nil, List.getElem?_cons_zero, List.getElem?_cons_succ, List.set_cons_zero, List.set_cons_succ, Option.some.injEq, Option.join_some, V.int.injEq, V.str.injEq, V.bl.injEq, V.ref.injEq, txt_inj, exists_eq_left', exists_eq_left, exists_and_left, and_true, true_and, decide_eq_true_eq, reduceCtorEq, decide_false, decide_true, Bool.not_false, Bool.not_true, if_true, if_false, Bool.false_eq_true, Nat.reduceAdd, Nat.reduceSub, Bool.not_eq_true', decide_eq_false_iff_not, not_true_eq_false, not_false_eq_true]
    exact q1 (fun l h e => nomatch e)
  | some l =>
    cases hi with
    | none =>
      simp only [oV, tCompSet, tRaise, tIsi, tSeq, tAsg, gName, tOp, tUn, tVar, tC, tTest, tB, tIf, tIfS, tAnd, tOr, tNot, tAndV, tOrV, tNotV, tRet, tRetN, tNext, tDrop, tCB, tCons, tNil, tBM, tBM0, tCall, tLst, tTup, tSl, tPart, tNoPart, tIsN, tNotN, tYes, tBreak, tCont, rI0, rI, rU, rEq, rNe, L2.start, compSt, List.map_cons, List.map_nil, List.length_cons, List.length_nil, List.replicate_succ, List.replicate_zero, List.cons_append, List.nil_append, List.append_nil, List.getElem?_cons_zero, List.getElem?_cons_succ, List.set_cons_zero, List.set_cons_succ, Option.some.injEq, Option.join_some, V.int.injEq, V.str.injEq, V.bl.injEq, V.ref.injEq, txt_inj, exists_eq_left', exists_eq_left, exists_and_left, and_true, true_and, decide_eq_true_eq, reduceCtorEq, decide_false, decide_true, Bool.not_false, Bool.not_true, if_true, if_false, Bool.false_eq_true, Nat.reduceAdd, Nat.reduceSub, Bool.not_eq_true', decide_eq_false_iff_not, not_true_eq_false, not_false_eq_true]
      exact q1 (fun l h _ e => nomatch e)
    | some h =>
      simp only [oV, tCompSet, tRaise, tIsi, tSeq, tAsg, gName, tOp, tUn, tVar, tC, tTest, tB, tIf, tIfS, tAnd, tOr, tNot, tAndV, tOrV, tNotV, tRet, tRetN, tNext, tDrop, tCB, tCons, tNil, tBM, tBM0, tCall, tLst, tTup, tSl, tPart, tNoPart, tIsN, tNotN, tYes, tBreak, tCont, rI0, rI, rU, rEq, rNe, L2.start, compSt, List.map_cons, List.map_nil, List.length_cons, List.length_nil, List.replicate_succ, List.replicate_zero, List.cons_append, List.nil_append, List.append_nil, List.getElem?_cons_zero, List.getElem?_cons_succ, List.set_cons_zero, List.set_cons_succ, Option.some.injEq, Option.join_some, V.int.injEq, V.str.injEq, V.bl.injEq, V.ref.injEq, txt_inj, exists_eq_left', exists_eq_left, exists_and_left, and_true, true_and, decide_eq_true_eq, reduceCtorEq, decide_false, decide_true, Bool.not_false, Bool.not_true, if_true, if_false, Bool.false_eq_true, Nat.reduceAdd, Nat.reduceSub, Bool.not_eq_true', decide_eq_false_iff_not, not_true_eq_false, not_false_eq_true]
      refine ⟨l, h, rfl, rfl, _, rfl, ?_⟩
      by_cases hl : l < h
      · rw [decide_eq_true hl, if_neg (by decide)]
        exact q1 (fun l' h' e1 e2 => by cases e1; cases e2; exact hl)
      · rw [decide_eq_false hl, if_pos (by decide)]
        exact ⟨by decide, q2 (fun z => hl (z l h rfl rfl))⟩
/-! ### room_at -/
def roomI (L : Nat) (es : List Nat) (lo hi : Option (List Nat)) (n : Nat) : Int := (ob L es (aheadN hi (highO L hi n) n) : Nat) - (ob L es (valO L lo n + 1) : Nat)
def roomB (b : Bool) (L : Nat) (es : List Nat) (lo hi : Option (List Nat)) (n : Nat) : Int := (ob L es (aheadB b hi (highO L hi n) n) : Nat) - (ob L es (valO L lo n + 1) : Nat)
theorem roomB_true (L : Nat) (es : List Nat) (lo hi : Option (List Nat)) (n : Nat) : roomB true L es lo hi n = roomI L es lo hi n := rfl
/-! ### counted_at -/
def spCounted : Sp := fun vs H Q _ => ∃ (L : Nat) (es : List Nat) (lo hi : Option (List Nat)) (n : Nat) (b : Bool), vs = [.int L, .str (txt es), oV lo, oV hi, .int n, .bl b] ∧ 0 < L ∧ L ≤ 26 ∧ es.length ≤ 26 ∧ OkO lo ∧ OkO hi ∧ n ≤ 100000 ∧ ∀ H', Same H H' → Q (.int (roomB b L es lo hi n)) H'
def rdCounted : TS :=
    tSeq (tAsg (tCall spWhole [] E0 (tCons (tVar 0) (tCons (tVar 2) (tCons (tVar 4) tNil)))) (gName 6))
      (tSeq (tAsg (tCall spHigh [] E0 (tCons (tVar 0) (tCons (tVar 3) (tCons (tVar 4) tNil)))) (gName 7))
      (tSeq (tAsg (tCall spAhead [] E0 (tCons (tVar 0) (tCons (tVar 1) (tCons (tVar 3) (tCons (tVar 7) (tCons (tVar 4) (tCons (tVar 5) tNil))))))) (gName 8))
      (tRet (tOp rSubI (tVar 8) (tCall spUpLow [] E0 (tCons (tVar 0) (tCons (tVar 1) (tCons (tVar 6) tNil))))))))
theorem read_counted {N : List Str} {vs : List V} {H : Hp} {Q : VK} {E : XK} (hN : N.length = 9) (h : spCounted vs H Q E) : rdCounted { nx := fun _ H' => Q .non H', rt := Q } (L2.start N vs) H := by
  obtain ⟨L, es, lo, hi, n, b, rfl, l0, l26, hes, olo, ohi, hn, q⟩ := h
  unfold rdCounted L2.start
  rw [hN]
  simp only [tCompSet, tRaise, tIsi, tSeq, tAsg, gName, tOp, tUn, tVar, tC, tTest, tB, tIf, tIfS, tAnd, tOr, tNot, tAndV, tOrV, tNotV, tRet, tRetN, tNext, tDrop, tCB, tCons, tNil, tBM, tBM0, tCall, tLst, tTup, tSl, tPart, tNoPart, tIsN, tNotN, tYes, tBreak, tCont, rI0, rI, rU, rEq, rNe, L2.start, compSt, List.map_cons, List.map_nil, List.length_cons, List.length_nil, List.replicate_succ, List.replicate_zero, List.cons_append, List.nil_append, List.append_nil, List.getElem?_cons_zero, List.getElem?_cons_succ, List.set_cons_zero, List.set_cons_succ, Option.some.injEq, Option.join_some, V.int.injEq, V.str.injEq, V.bl.injEq, V.ref.injEq, txt_inj, exists_eq_left', exists_eq_left, exists_and_left, and_true, true_and, decide_eq_true_eq, reduceCtorEq, decide_false, decide_true, Bool.not_false, Bool.not_true, if_true, if_false, Bool.false_eq_true, Nat.reduceAdd, Nat.reduceSub, Bool.not_eq_true', decide_eq_false_iff_not, not_true_eq_false, not_false_eq_true]
  refine ⟨L, lo, n, rfl, l26, olo, hn, ?_⟩
  refine ⟨L, hi, n, rfl, l26, ohi, hn, ?_⟩
  refine ⟨L, _, hi, _, n, b, rfl, l0, l26, hes, ohi, fun H2 s2 => ?_⟩
  refine ⟨L, _, _, rfl, l0, l26, hes, fun H3 s3 => ?_⟩
  simp only [tCompSet, tRaise, tIsi, tSeq, tAsg, gName, tOp, tUn, tVar, tC, tTest, tB, tIf, tIfS, tAnd, tOr, tNot, tAndV, tOrV, tNotV, tRet, tRetN, tNext, tDrop, tCB, tCons, tNil, tBM, tBM0, tCall, tLst, tTup, tSl, tPart, tNoPart, tIsN, tNotN, tYes, tBreak, tCont, rI0, rI, rU, rEq, rNe, L2.start, compSt, List.map_cons, List.map_nil, List.length_cons, List.length_nil, List.replicate_succ, List.replicate_zero, List.cons_append, List.nil_append, List.append_nil, List.getElem?_cons_zero, List.getElem?_cons_succ, List.set_cons_zero, List.set_cons_succ, Option.some.injEq, Option.join_some, V.int.injEq, V.str.injEq, V.bl.injEq, V.ref.injEq, txt_inj, exists_eq_left', exists_eq_left, exists_and_left, and_true, true_and, decide_eq_true_eq, reduceCtorEq, decide_false, decide_true, Bool.not_false, Bool.not_true, if_true, if_false, Bool.false_eq_true, Nat.reduceAdd, Nat.reduceSub, Bool.not_eq_true', decide_eq_false_iff_not, not_true_eq_false, not_false_eq_true]
  exact q _ (s2.trans s3)
/-- what is handed in of a room -/
structure RoomIn (L h j : Nat) (lo hi : Option (List Nat)) (n : Nat) : Prop where
  l0 : 0 < L
  l26 : L ≤ 26
  h0 : 0 < h
  lo : OkO lo
  hi : OkO hi
  n : n ≤ 100000
theorem endsL_len {L h j : Nat} (hL : L ≤ 26) : (endsL L h j).length ≤ 26 := by
  unfold endsL
  rw [List.length_map]
  exact Nat.le_trans (List.length_filter_le _ _) (by rw [List.length_range]; omega)
def spRoom (c : Addr) : Sp := fun vs H Q E => ∃ (L h j : Nat) (lo hi : Option (List Nat)) (n : Nat), vs = [.int L, .int h, .int j, oV lo, oV hi, .int n] ∧ RoomIn L h j lo hi n ∧ (OkLH lo hi → ∀ H', Same H H' → Q (.int (roomI L (endsL L h j) lo hi n)) H') ∧ (¬ OkLH lo hi → E (.ref c) none H)
def rdRoom (c : Addr) (E : XK) : TS :=
    tSeq (tDrop (tCall (spAskRoom c) [] E (tCons (tVar 3) (tCons (tVar 4) tNil))))
      (tRet (tCall spCounted [] E0 (tCons (tVar 0) (tCons (tCall spEnds [] E0 (tCons (tVar 0) (tCons (tVar 1) (tCons (tVar 2) tNil)))) (tCons (tVar 3) (tCons (tVar 4) (tCons (tVar 5) (tCons (tC (.bl true)) tNil))))))))
theorem read_room {c : Addr} {N : List Str} {vs : List V} {H : Hp} {Q : VK} {E : XK} (hN : N.length = 6) (h : spRoom c vs H Q E) : rdRoom c E { nx := fun _ H' => Q .non H', rt := Q } (L2.start N vs) H := by
  obtain ⟨L, h, j, lo, hi, n, rfl, R, q1, q2⟩ := h
  unfold rdRoom L2.start
  rw [hN]
  simp only [tCompSet, tRaise, tIsi, tSeq, tAsg, gName, tOp, tUn, tVar, tC, tTest, tB, tIf, tIfS, tAnd, tOr, tNot, tAndV, tOrV, tNotV, tRet, tRetN, tNext, tDrop, tCB, tCons, tNil, tBM, tBM0, tCall, tLst, tTup, tSl, tPart, tNoPart, tIsN, tNotN, tYes, tBreak, tCont, rI0, rI, rU, rEq, rNe, L2.start, compSt, List.map_cons, List.map_nil, List.length_cons, List.length_nil, List.replicate_succ, List.replicate_zero, List.cons_append, List.nil_append, List.append_nil, List.getElem?_cons_zero, List.getElem?_cons_succ, List.set_cons_zero, List.set_cons_succ, Option.some.injEq, Option.join_some, V.int.injEq, V.str.injEq, V.bl.injEq, V.ref.injEq, txt_inj, exists_eq_left', exists_eq_left, exists_and_left, and_true, true_and, decide_eq_true_eq, reduceCtorEq, decide_false, decide_true, Bool.not_false, Bool.not_true, if_true, if_false, Bool.false_eq_true, Nat.reduceAdd, Nat.reduceSub, Bool.not_eq_true', decide_eq_false_iff_not, not_true_eq_false, not_false_eq_true]
  refine ⟨lo, hi, rfl, fun ok => ?_, q2⟩
  simp only [tCompSet, tRaise, tIsi, tSeq, tAsg, gName, tOp, tUn, tVar, tC, tTest, tB, tIf, tIfS, tAnd, tOr, tNot, tAndV, tOrV, tNotV, tRet, tRetN, tNext, tDrop, tCB, tCons, tNil, tBM, tBM0, tCall, tLst, tTup, tSl, tPart, tNoPart, tIsN, tNotN, tYes, tBreak, tCont, rI0, rI, rU, rEq, rNe, L2.start, compSt, List.map_cons, List.map_nil, List.length_cons, List.length_nil, List.replicate_succ, List.replicate_zero, List.cons_append, List.nil_append, List.append_nil, List.getElem?_cons_zero, List.getElem?_cons_succ, List.set_cons_zero, List.set_cons_succ, Option.some.injEq, Option.join_some, V.int.injEq, V.str.injEq, V.bl.injEq, V.ref.injEq, txt_inj, exists_eq_left', exists_eq_left, exists_and_left, and_true, true_and, decide_eq_true_eq, reduceCtorEq, decide_false, decide_true, Bool.not_false, Bool.not_true, if_true, if_false, Bool.false_eq_true, Nat.reduceAdd, Nat.reduceSub, Bool.not_eq_true', decide_eq_false_iff_not, not_true_eq_false, not_false_eq_true]
  refine ⟨L, h, j, rfl, R.l26, R.h0, fun H1 s1 => ?_⟩
  refine ⟨L, _, lo, hi, n, true, rfl, R.l0, R.l26, endsL_len R.l26, R.lo, R.hi, R.n, fun H2 s2 => ?_⟩
  exact q1 ok _ (s1.trans s2)
/-! ### nth_mark -/
def spNth (c : Addr) : Sp := fun vs H Q E => ∃ (L h j : Nat) (lo hi : Option (List Nat)) (n k : Nat), vs = [.int L, .int h, .int j, oV lo, oV hi, .int n, .int k] ∧ RoomIn L h j lo hi n ∧ j < h ∧ h + 1 ≤ L ∧
  (OkLH lo hi → ∀ H', Same H H' → Q (.str (txt (mk L (nth L (endsL L h j) (ob L (endsL L h j) (valO L lo n + 1) + k)) n))) H') ∧ (¬ OkLH lo hi → E (.ref c) none H)
def rdNth (K : PySem.W.Frag) (c : Addr) (E : XK) : TS :=
    tSeq (tDrop (tCall (spAskRoom c) [] E (tCons (tVar 3) (tCons (tVar 4) tNil))))
      (tSeq (tAsg (tCall spEnds [] E0 (tCons (tVar 0) (tCons (tVar 1) (tCons (tVar 2) tNil)))) (gName 7))
      (tSeq (tAsg (tCall spWhole [] E0 (tCons (tVar 0) (tCons (tVar 3) (tCons (tVar 5) tNil)))) (gName 8))
      (tSeq (tAsg (tOp rAddI (tCall spUpLow [] E0 (tCons (tVar 0) (tCons (tVar 7) (tCons (tVar 8) tNil)))) (tVar 6)) (gName 9))
      (tSeq (tAsg (tBM K "str" rIndex (tC (.str (txt ABC))) (tCons (tOp rIxStr (tVar 7) (tOp rModI (tVar 9) (tCB rLenS (tCons (tVar 7) tNil)))) tNil)) (gName 10))
      (tRet (tCall spMarkOf [] E0 (tCons (tVar 0) (tCons (tOp rAddI (tOp rMulI (tOp rDivI (tVar 9) (tCB rLenS (tCons (tVar 7) tNil))) (tVar 0)) (tVar 10)) (tCons (tVar 5) tNil)))))))))
theorem read_nth {K : PySem.W.Frag} {c : Addr} {N : List Str} {vs : List V} {H : Hp} {Q : VK} {E : XK} (hN : N.length = 11) (h : spNth c vs H Q E) : rdNth K c E { nx := fun _ H' => Q .non H', rt := Q } (L2.start N vs) H := by
  obtain ⟨L, h, j, lo, hi, n, k, rfl, R, hj, hh, q1, q2⟩ := h
  unfold rdNth L2.start
  rw [hN]
  simp only [tCompSet, tRaise, tIsi, tSeq, tAsg, gName, tOp, tUn, tVar, tC, tTest, tB, tIf, tIfS, tAnd, tOr, tNot, tAndV, tOrV, tNotV, tRet, tRetN, tNext, tDrop, tCB, tCons, tNil, tBM, tBM0, tCall, tLst, tTup, tSl, tPart, tNoPart, tIsN, tNotN, tYes, tBreak, tCont, rI0, rI, rU, rEq, rNe, L2.start, compSt, List.map_cons, List.map_nil, List.length_cons, List.length_nil, List.replicate_succ, List.replicate_zero, List.cons_append, List.nil_append, List.append_nil, List.getElem?_cons_zero, List.getElem?_cons_succ, List.set_cons_zero, List.set_cons_succ, Option.some.injEq, Option.join_some, V.int.injEq, V.str.injEq, V.bl.injEq, V.ref.injEq, txt_inj, exists_eq_left', exists_eq_left, exists_and_left, and_true, true_and, decide_eq_true_eq, reduceCtorEq, decide_false, decide_true, Bool.not_false, Bool.not_true, if_true, if_false, Bool.false_eq_true, Nat.reduceAdd, Nat.reduceSub, Bool.not_eq_true', decide_eq_false_iff_not, not_true_eq_false, not_false_eq_true]
  refine ⟨lo, hi, rfl, fun ok => ?_, q2⟩
  have q1 := q1 ok
  simp only [tCompSet, tRaise, tIsi, tSeq, tAsg, gName, tOp, tUn, tVar, tC, tTest, tB, tIf, tIfS, tAnd, tOr, tNot, tAndV, tOrV, tNotV, tRet, tRetN, tNext, tDrop, tCB, tCons, tNil, tBM, tBM0, tCall, tLst, tTup, tSl, tPart, tNoPart, tIsN, tNotN, tYes, tBreak, tCont, rI0, rI, rU, rEq, rNe, L2.start, compSt, List.map_cons, List.map_nil, List.length_cons, List.length_nil, List.replicate_succ, List.replicate_zero, List.cons_append, List.nil_append, List.append_nil, List.getElem?_cons_zero, List.getElem?_cons_succ, List.set_cons_zero, List.set_cons_succ, Option.some.injEq, Option.join_some, V.int.injEq, V.str.injEq, V.bl.injEq, V.ref.injEq, txt_inj, exists_eq_left', exists_eq_left, exists_and_left, and_true, true_and, decide_eq_true_eq, reduceCtorEq, decide_false, decide_true, Bool.not_false, Bool.not_true, if_true, if_false, Bool.false_eq_true, Nat.reduceAdd, Nat.reduceSub, Bool.not_eq_true', decide_eq_false_iff_not, not_true_eq_false, not_false_eq_true]
  refine ⟨L, h, j, rfl, R.l26, R.h0, fun H1 s1 => ?_⟩
  have EN := ends_ok hj hh
  have hel := endsL_len (h := h) (j := j) R.l26
  generalize endsL L h j = es at q1 EN hel ⊢
  refine ⟨L, lo, n, rfl, R.l26, R.lo, R.n, ?_⟩
  refine ⟨L, _, _, rfl, R.l0, R.l26, hel, fun H2 s2 => ?_⟩
  simp only [tCompSet, tRaise, tIsi, tSeq, tAsg, gName, tOp, tUn, tVar, tC, tTest, tB, tIf, tIfS, tAnd, tOr, tNot, tAndV, tOrV, tNotV, tRet, tRetN, tNext, tDrop, tCB, tCons, tNil, tBM, tBM0, tCall, tLst, tTup, tSl, tPart, tNoPart, tIsN, tNotN, tYes, tBreak, tCont, rI0, rI, rU, rEq, rNe, L2.start, compSt, List.map_cons, List.map_nil, List.length_cons, List.length_nil, List.replicate_succ, List.replicate_zero, List.cons_append, List.nil_append, List.append_nil, List.getElem?_cons_zero, List.getElem?_cons_succ, List.set_cons_zero, List.set_cons_succ, Option.some.injEq, Option.join_some, V.int.injEq, V.str.injEq, V.bl.injEq, V.ref.injEq, txt_inj, exists_eq_left', exists_eq_left, exists_and_left, and_true, true_and, decide_eq_true_eq, reduceCtorEq, decide_false, decide_true, Bool.not_false, Bool.not_true, if_true, if_false, Bool.false_eq_true, Nat.reduceAdd, Nat.reduceSub, Bool.not_eq_true', decide_eq_false_iff_not, not_true_eq_false, not_false_eq_true]
  generalize ob L es (valO L lo n + 1) = p0 at q1 ⊢
  have hp : 0 < es.length := List.length_pos_iff.mpr EN.ne
  refine ⟨rfl, lenS_go (by omega) ⟨_, rfl, by omega, ?_⟩⟩
  have e1 : ((p0 : Int) + (k : Int)) % (es.length : Int) = (((p0 + k) % es.length : Nat) : Int) := by rw [← Int.natCast_add]; exact (Int.natCast_emod _ _).symm
  have e2 : ((p0 : Int) + (k : Int)) / (es.length : Int) = (((p0 + k) / es.length : Nat) : Int) := by rw [← Int.natCast_add]; exact (Int.natCast_ediv _ _).symm
  have hm := Nat.mod_lt (p0 + k) hp
  obtain ⟨c0, hc0⟩ := some_at hm
  have hcm := List.mem_of_getElem? hc0
  have c1 := EN.lo c0 hcm
  have c2 := EN.hi c0 hcm
  have l26 := R.l26
  rw [e1]
  refine ixS_go (by omega) (by omega) (by rw [Int.toNat_natCast]; exact hc0) (idxABC_go (by omega) (by omega) ?_)
  simp only [tCompSet, tRaise, tIsi, tSeq, tAsg, gName, tOp, tUn, tVar, tC, tTest, tB, tIf, tIfS, tAnd, tOr, tNot, tAndV, tOrV, tNotV, tRet, tRetN, tNext, tDrop, tCB, tCons, tNil, tBM, tBM0, tCall, tLst, tTup, tSl, tPart, tNoPart, tIsN, tNotN, tYes, tBreak, tCont, rI0, rI, rU, rEq, rNe, L2.start, compSt, List.map_cons, List.map_nil, List.length_cons, List.length_nil, List.replicate_succ, List.replicate_zero, List.cons_append, List.nil_append, List.append_nil, List.getElem?_cons_zero, List.getElem?_cons_succ, List.set_cons_zero, List.set_cons_succ, Option.some.injEq, Option.join_some, V.int.injEq, V.str.injEq, V.bl.injEq, V.ref.injEq, txt_inj, exists_eq_left', exists_eq_left, exists_and_left, and_true, true_and, decide_eq_true_eq, reduceCtorEq, decide_false, decide_true, Bool.not_false, Bool.not_true, if_true, if_false, Bool.false_eq_true, Nat.reduceAdd, Nat.reduceSub, Bool.not_eq_true', decide_eq_false_iff_not, not_true_eq_false, not_false_eq_true]
  refine lenS_go (by omega) ⟨_, rfl, cdiv (by omega) (by omega), mulB_r (by omega) (by omega), ?_⟩
  rw [e2]
  refine ⟨L, nth L es (p0 + k), n, ?_, R.l0, R.l26, R.n, q1 _ (s1.trans s2)⟩
  unfold nth
  rw [List.getD_eq_getElem?_getD, hc0, Int.natCast_add, Int.natCast_mul]
  rfl
end L2

set_option Elab.async false
set_option linter.all false
set_option maxRecDepth 100000
set_option maxHeartbeats 4000000
/-! shared readings: least_counted, least_long for any many, told_number, mark_between -/
namespace L2
open PySem PySem.Spec PyProof.Rows MM
structure MarksOk (L : Nat) (lo hi : Option (List Nat)) : Prop where
  mlo : ∀ m, lo = some m → Mark L m ∧ m.length ≤ 1000
  mhi : ∀ m, hi = some m → Mark L m ∧ m.length ≤ 1000
def lenO : Option (List Nat) → Nat
  | none => 0
  | some l => l.length
structure Hands (L h j : Nat) : Prop where
  l2 : 2 ≤ L
  l26 : L ≤ 26
  hj : j < h
  hh : h + 1 ≤ L
/-- n is the least length with room for k -/
structure LeastB (b : Bool) (L : Nat) (es : List Nat) (lo hi : Option (List Nat)) (k n : Nat) : Prop where
  pos : 1 ≤ n
  len : n ≤ 1 + lenO lo + k ∨ n ≤ 1 + lenO hi + k
  room : (k : Int) ≤ roomB b L es lo hi n
  less : ∀ m, 1 ≤ m → m < n → roomB b L es lo hi m < k
theorem LeastB.one {b : Bool} {L : Nat} {es : List Nat} {lo hi : Option (List Nat)} {k n m : Nat} (A : LeastB b L es lo hi k n) (B : LeastB b L es lo hi k m) : n = m := by
  rcases Nat.lt_trichotomy n m with h | h | h
  · have := B.less n A.pos h
    have := A.room
    omega
  · exact h
  · have := A.less m B.pos h
    have := B.room
    omega
theorem MarksOk.okO {L : Nat} {lo hi : Option (List Nat)} (M : MarksOk L lo hi) (hL : L ≤ 26) : OkO lo ∧ OkO hi := by
  constructor
  · cases lo with
    | none => trivial
    | some m => exact ⟨(M.mlo m rfl).1.ls.mono hL, by have := (M.mlo m rfl).2; omega⟩
  · cases hi with
    | none => trivial
    | some m => exact ⟨(M.mhi m rfl).1.ls.mono hL, by have := (M.mhi m rfl).2; omega⟩
theorem MarksOk.roomIn {L h j n : Nat} {lo hi : Option (List Nat)} (M : MarksOk L lo hi) (D : Hands L h j) (hn : n ≤ 100000) : RoomIn L h j lo hi n :=
  ⟨by have := D.l2; omega, D.l26, by have := D.hj; omega, (M.okO D.l26).1, (M.okO D.l26).2, hn⟩
theorem MarksOk.lens {L : Nat} {lo hi : Option (List Nat)} (M : MarksOk L lo hi) : lenO lo ≤ 1000 ∧ lenO hi ≤ 1000 := by
  constructor
  · cases lo with
    | none => exact Nat.zero_le _
    | some m => exact (M.mlo m rfl).2
  · cases hi with
    | none => exact Nat.zero_le _
    | some m => exact (M.mhi m rfl).2
theorem highO_succ (L : Nat) (o : Option (List Nat)) (n : Nat) : highO L o (n + 1) = highO L o n * L + figO o n := by
  cases o with
  | none => show L ^ (n + 1) = L ^ n * L + 0; rw [Nat.pow_succ]; rfl
  | some l => exact val_succ L l n
theorem figO_end {o : Option (List Nat)} {n : Nat} (h : lenO o ≤ n) : figO o n = 0 := by
  cases o with
  | none => rfl
  | some l => show fig l n = 0; unfold fig; rw [List.getElem?_eq_none h]
theorem val_apart {L n : Nat} (hL : 0 < L) {lo hi : Option (List Nat)} (M : MarksOk L lo hi) (ok : OkLH lo hi) (h1 : lenO lo ≤ n) (h2 : lenO hi ≤ n) : valO L lo n < highO L hi n := by
  cases lo with
  | none =>
    cases hi with
    | none => exact Nat.pow_pos hL
    | some h => exact val_pos hL n (M.mhi h rfl).1.ls (M.mhi h rfl).1.na (M.mhi h rfl).1.ne h2
  | some l =>
    cases hi with
    | none => exact val_lt hL n (M.mlo l rfl).1.ls
    | some h => exact (lt_val hL n (M.mlo l rfl).1.ls (M.mhi h rfl).1.ls (M.mlo l rfl).1.na (M.mhi h rfl).1.na h1 h2).mp (ok l h rfl rfl)
theorem val_wide {L n : Nat} (hL : 2 ≤ L) {lo hi : Option (List Nat)} (M : MarksOk L lo hi) (ok : OkLH lo hi) (h1 : lenO lo ≤ n) (h2 : lenO hi ≤ n) : ∀ t, valO L lo (n + t) + (t + 1) ≤ highO L hi (n + t)
  | 0 => val_apart (by omega) M ok h1 h2
  | t + 1 => by
    have ih := val_wide hL M ok h1 h2 t
    rw [show n + (t + 1) = n + t + 1 by omega, valO_succ, highO_succ, figO_end (by omega), figO_end (by omega), Nat.add_zero, Nat.add_zero]
    have := Nat.mul_le_mul_right L ih
    rw [Nat.add_mul] at this
    have h3 : (t + 1) * 2 ≤ (t + 1) * L := Nat.mul_le_mul_left _ hL
    omega
theorem ob_blocks {L : Nat} {es : List Nat} (hL : 0 < L) (E : MM.Ends L es) (v d : Nat) : ob L es (v * L + 1) + d ≤ ob L es ((v + d) * L) := by
  have hp : 0 < es.length := List.length_pos_iff.mpr E.ne
  obtain ⟨e, he⟩ := List.exists_mem_of_ne_nil _ E.ne
  have h1 := E.lo e he
  have h2 := E.hi e he
  have m1 : (v * L + 1) / L = v := by rw [Nat.mul_comm, Nat.mul_add_div hL, Nat.div_eq_of_lt (by omega)]; rfl
  have m2 : (v * L + 1) % L = 1 := by rw [Nat.mul_comm, Nat.mul_add_mod, Nat.mod_eq_of_lt (by omega)]
  unfold ob
  rw [m1, m2, Nat.mul_div_cancel _ hL, Nat.mul_mod_left, Nat.add_zero, cnt_low E.lo]
  have : MM.cnt es (97 + 1) = 0 := by
    unfold MM.cnt
    rw [List.length_eq_zero_iff, List.filter_eq_nil_iff]
    intro e he; have := E.lo e he; simp only [decide_eq_true_eq]; omega
  rw [this, Nat.add_mul]
  have := Nat.le_mul_of_pos_right d hp
  omega
theorem room_last {b : Bool} {L n k : Nat} {es : List Nat} (hL : 2 ≤ L) (E : MM.Ends L es) {lo hi : Option (List Nat)} (M : MarksOk L lo hi) (ok : OkLH lo hi) (h1 : lenO lo ≤ n) (h2 : lenO hi ≤ n) : (k : Int) ≤ roomB b L es lo hi (n + k + 1) := by
  have hv := val_wide hL M ok h1 h2 k
  have hL0 : 0 < L := by omega
  have ea : aheadB b hi (highO L hi (n + k + 1)) (n + k + 1) = highO L hi (n + k + 1) := by
    cases b with
    | false => rfl
    | true =>
      cases hi with
      | none => rfl
      | some h =>
        show (if n + k + 1 < h.length then _ else _) = _
        have h2 : h.length ≤ n := h2
        rw [if_neg (by omega)]
  unfold roomB
  rw [ea, highO_succ, valO_succ, figO_end (by omega), figO_end (by omega), Nat.add_zero, Nat.add_zero]
  have b := ob_blocks hL0 E (valO L lo (n + k)) k
  have m := ob_mono hL0 E (Nat.mul_le_mul_right L (show valO L lo (n + k) + k ≤ highO L hi (n + k) by omega))
  omega
def spLeastC : Sp := fun vs H Q _ => ∃ (L : Nat) (es : List Nat) (lo hi : Option (List Nat)) (k : Nat) (b : Bool), vs = [.int L, .str (txt es), oV lo, oV hi, .int k, .bl b] ∧ 2 ≤ L ∧ L ≤ 26 ∧ es.length ≤ 26 ∧ MM.Ends L es ∧ MarksOk L lo hi ∧ OkLH lo hi ∧ 1 ≤ k ∧ k ≤ 10000 ∧ ∀ H' n, Same H H' → LeastB b L es lo hi k n → Q (.int n) H'
def rdLeastC : TS :=
    tSeq (tAsg (tC (.int 0)) (gName 6))
      (tSeq (tAsg (tC (.int 0)) (gName 7))
      (tSeq (tAsg (tC (.int 0)) (gName 8))
      (tSeq (tAsg (tCall spHigh [] E0 (tCons (tVar 0) (tCons (tVar 3) (tCons (tC (.int 0)) tNil)))) (gName 9))
      (tSeq (tWhile (tTest (tOp rLtI (tVar 7) (tVar 4))) (tSeq (tAsg (tOp rAddI (tOp rMulI (tVar 8) (tVar 0)) (tCall spFig [] E0 (tCons (tVar 2) (tCons (tVar 6) tNil)))) (gName 8))
      (tSeq (tAsg (tOp rAddI (tOp rMulI (tVar 9) (tVar 0)) (tCall spFig [] E0 (tCons (tVar 3) (tCons (tVar 6) tNil)))) (gName 9))
      (tSeq (tAsg (tOp rAddI (tVar 6) (tC (.int 1))) (gName 6))
      (tSeq (tAsg (tCall spAhead [] E0 (tCons (tVar 0) (tCons (tVar 1) (tCons (tVar 3) (tCons (tVar 9) (tCons (tVar 6) (tCons (tVar 5) tNil))))))) (gName 10))
      (tAsg (tOp rSubI (tVar 10) (tCall spUpLow [] E0 (tCons (tVar 0) (tCons (tVar 1) (tCons (tVar 8) tNil))))) (gName 7)))))))
      (tRet (tVar 6))))))
theorem read_leastC {N : List Str} {vs : List V} {H : Hp} {Q : VK} {E : XK} (hN : N.length = 11) (h : spLeastC vs H Q E) : rdLeastC { nx := fun _ H' => Q .non H', rt := Q } (L2.start N vs) H := by
  obtain ⟨L, es, lo, hi, k, b, rfl, hl2, hl26, hel, EN, M, ok, hk1, hk2, q1⟩ := h
  unfold rdLeastC L2.start
  rw [hN]
  have hL0 : 0 < L := by omega
  obtain ⟨okl, okh⟩ := M.okO hl26
  have hlen := M.lens
  simp only [tCompSet, tRaise, tIsi, tSeq, tAsg, gName, tOp, tUn, tVar, tC, tTest, tB, tIf, tIfS, tAnd, tOr, tNot, tAndV, tOrV, tNotV, tRet, tRetN, tNext, tDrop, tCB, tCons, tNil, tBM, tBM0, tCall, tLst, tTup, tSl, tPart, tNoPart, tIsN, tNotN, tYes, tBreak, tCont, rI0, rI, rU, rEq, rNe, L2.start, compSt, List.map_cons, List.map_nil, List.length_cons, List.length_nil, List.replicate_succ, List.replicate_zero, List.cons_append, List.nil_append, List.append_nil, List.getElem?_cons_zero, List.getElem?_cons_succ, List.set_cons_zero, List.set_cons_succ, Option.some.injEq, Option.join_some, V.int.injEq, V.str.injEq, V.bl.injEq, V.ref.injEq, txt_inj, exists_eq_left', exists_eq_left, exists_and_left, and_true, true_and, decide_eq_true_eq, reduceCtorEq, decide_false, decide_true, Bool.not_false, Bool.not_true, if_true, if_false, Bool.false_eq_true, Nat.reduceAdd, Nat.reduceSub, Bool.not_eq_true', decide_eq_false_iff_not, not_true_eq_false, not_false_eq_true]
  refine ⟨L, hi, 0, rfl, hl26, okh, by omega, ?_⟩
  have rl := room_last (b := b) (n := max (lenO lo) (lenO hi)) (k := k) hl2 EN M ok (Nat.le_max_left _ _) (Nat.le_max_right _ _)
  have mx : max (lenO lo) (lenO hi) = lenO lo ∨ max (lenO lo) (lenO hi) = lenO hi := by omega
  generalize max (lenO lo) (lenO hi) = N1 at rl mx
  obtain ⟨N0, hN0⟩ : ∃ N0, N0 = N1 + k := ⟨_, rfl⟩
  rw [← hN0] at rl
  refine while_of (fun m σ H' => ∃ (n : Nat) (r : Int) (v10 : Option V), Same H H' ∧ σ = [some (.int L), some (.str (txt es)), some (oV lo), some (oV hi), some (.int k), some (.bl b), some (.int n), some (.int r), some (.int (valO L lo n : Nat)), some (.int (highO L hi n : Nat)), v10] ∧ n ≤ N0 + 1 ∧ m = N0 + 1 - n ∧ ((n = 0 ∧ r = 0) ∨ (1 ≤ n ∧ r = roomB b L es lo hi n)) ∧ ∀ m', 1 ≤ m' → m' < n → roomB b L es lo hi m' < k) (N0 + 1)
    ⟨0, 0, none, Same.refl _, by rw [valO_zero]; rfl, by omega, by omega, .inl ⟨rfl, rfl⟩, fun m' h1 h2 => by omega⟩ ?_
  rintro m σ H2 ⟨n, r, v10, s2, rfl, hn, hm, hr, hp⟩ R hgo hstop
  simp only [tCompSet, tRaise, tIsi, tSeq, tAsg, gName, tOp, tUn, tVar, tC, tTest, tB, tIf, tIfS, tAnd, tOr, tNot, tAndV, tOrV, tNotV, tRet, tRetN, tNext, tDrop, tCB, tCons, tNil, tBM, tBM0, tCall, tLst, tTup, tSl, tPart, tNoPart, tIsN, tNotN, tYes, tBreak, tCont, rI0, rI, rU, rEq, rNe, L2.start, compSt, List.map_cons, List.map_nil, List.length_cons, List.length_nil, List.replicate_succ, List.replicate_zero, List.cons_append, List.nil_append, List.append_nil, List.getElem?_cons_zero, List.getElem?_cons_succ, List.set_cons_zero, List.set_cons_succ, Option.some.injEq, Option.join_some, V.int.injEq, V.str.injEq, V.bl.injEq, V.ref.injEq, txt_inj, exists_eq_left', exists_eq_left, exists_and_left, and_true, true_and, decide_eq_true_eq, reduceCtorEq, decide_false, decide_true, Bool.not_false, Bool.not_true, if_true, if_false, Bool.false_eq_true, Nat.reduceAdd, Nat.reduceSub, Bool.not_eq_true', decide_eq_false_iff_not, not_true_eq_false, not_false_eq_true]
  by_cases hr1 : r < k
  · rw [decide_eq_true hr1]
    refine hgo H2 ?_
    have hnN : n ≤ N0 := by
      by_cases z : n = N0 + 1
      · subst z
        rcases hr with ⟨z, _⟩ | ⟨_, z⟩
        · omega
        · omega
      · omega
    simp only [tCompSet, tRaise, tIsi, tSeq, tAsg, gName, tOp, tUn, tVar, tC, tTest, tB, tIf, tIfS, tAnd, tOr, tNot, tAndV, tOrV, tNotV, tRet, tRetN, tNext, tDrop, tCB, tCons, tNil, tBM, tBM0, tCall, tLst, tTup, tSl, tPart, tNoPart, tIsN, tNotN, tYes, tBreak, tCont, rI0, rI, rU, rEq, rNe, L2.start, compSt, List.map_cons, List.map_nil, List.length_cons, List.length_nil, List.replicate_succ, List.replicate_zero, List.cons_append, List.nil_append, List.append_nil, List.getElem?_cons_zero, List.getElem?_cons_succ, List.set_cons_zero, List.set_cons_succ, Option.some.injEq, Option.join_some, V.int.injEq, V.str.injEq, V.bl.injEq, V.ref.injEq, txt_inj, exists_eq_left', exists_eq_left, exists_and_left, and_true, true_and, decide_eq_true_eq, reduceCtorEq, decide_false, decide_true, Bool.not_false, Bool.not_true, if_true, if_false, Bool.false_eq_true, Nat.reduceAdd, Nat.reduceSub, Bool.not_eq_true', decide_eq_false_iff_not, not_true_eq_false, not_false_eq_true]
    refine ⟨mulB_r (by omega) (by omega), lo, n, rfl, okl, ?_⟩
    simp only [tCompSet, tRaise, tIsi, tSeq, tAsg, gName, tOp, tUn, tVar, tC, tTest, tB, tIf, tIfS, tAnd, tOr, tNot, tAndV, tOrV, tNotV, tRet, tRetN, tNext, tDrop, tCB, tCons, tNil, tBM, tBM0, tCall, tLst, tTup, tSl, tPart, tNoPart, tIsN, tNotN, tYes, tBreak, tCont, rI0, rI, rU, rEq, rNe, L2.start, compSt, List.map_cons, List.map_nil, List.length_cons, List.length_nil, List.replicate_succ, List.replicate_zero, List.cons_append, List.nil_append, List.append_nil, List.getElem?_cons_zero, List.getElem?_cons_succ, List.set_cons_zero, List.set_cons_succ, Option.some.injEq, Option.join_some, V.int.injEq, V.str.injEq, V.bl.injEq, V.ref.injEq, txt_inj, exists_eq_left', exists_eq_left, exists_and_left, and_true, true_and, decide_eq_true_eq, reduceCtorEq, decide_false, decide_true, Bool.not_false, Bool.not_true, if_true, if_false, Bool.false_eq_true, Nat.reduceAdd, Nat.reduceSub, Bool.not_eq_true', decide_eq_false_iff_not, not_true_eq_false, not_false_eq_true]
    refine ⟨mulB_r (by omega) (by omega), hi, n, rfl, okh, ?_⟩
    simp only [tCompSet, tRaise, tIsi, tSeq, tAsg, gName, tOp, tUn, tVar, tC, tTest, tB, tIf, tIfS, tAnd, tOr, tNot, tAndV, tOrV, tNotV, tRet, tRetN, tNext, tDrop, tCB, tCons, tNil, tBM, tBM0, tCall, tLst, tTup, tSl, tPart, tNoPart, tIsN, tNotN, tYes, tBreak, tCont, rI0, rI, rU, rEq, rNe, L2.start, compSt, List.map_cons, List.map_nil, List.length_cons, List.length_nil, List.replicate_succ, List.replicate_zero, List.cons_append, List.nil_append, List.append_nil, List.getElem?_cons_zero, List.getElem?_cons_succ, List.set_cons_zero, List.set_cons_succ, Option.some.injEq, Option.join_some, V.int.injEq, V.str.injEq, V.bl.injEq, V.ref.injEq, txt_inj, exists_eq_left', exists_eq_left, exists_and_left, and_true, true_and, decide_eq_true_eq, reduceCtorEq, decide_false, decide_true, Bool.not_false, Bool.not_true, if_true, if_false, Bool.false_eq_true, Nat.reduceAdd, Nat.reduceSub, Bool.not_eq_true', decide_eq_false_iff_not, not_true_eq_false, not_false_eq_true]
    have e1 : ((valO L lo n : Nat) : Int) * (L : Int) + (figO lo n : Nat) = (valO L lo (n + 1) : Nat) := by rw [valO_succ, Int.natCast_add, Int.natCast_mul]
    have e2 : ((highO L hi n : Nat) : Int) * (L : Int) + (figO hi n : Nat) = (highO L hi (n + 1) : Nat) := by rw [highO_succ, Int.natCast_add, Int.natCast_mul]
    have e3 : (n : Int) + 1 = ((n + 1 : Nat) : Int) := rfl
    rw [e1, e2, e3]
    refine ⟨L, es, hi, _, n + 1, b, rfl, hL0, hl26, hel, okh, fun H3 s3 => ?_⟩
    refine ⟨L, es, _, rfl, hL0, hl26, hel, fun H4 s4 => ?_⟩
    simp only [tCompSet, tRaise, tIsi, tSeq, tAsg, gName, tOp, tUn, tVar, tC, tTest, tB, tIf, tIfS, tAnd, tOr, tNot, tAndV, tOrV, tNotV, tRet, tRetN, tNext, tDrop, tCB, tCons, tNil, tBM, tBM0, tCall, tLst, tTup, tSl, tPart, tNoPart, tIsN, tNotN, tYes, tBreak, tCont, rI0, rI, rU, rEq, rNe, L2.start, compSt, List.map_cons, List.map_nil, List.length_cons, List.length_nil, List.replicate_succ, List.replicate_zero, List.cons_append, List.nil_append, List.append_nil, List.getElem?_cons_zero, List.getElem?_cons_succ, List.set_cons_zero, List.set_cons_succ, Option.some.injEq, Option.join_some, V.int.injEq, V.str.injEq, V.bl.injEq, V.ref.injEq, txt_inj, exists_eq_left', exists_eq_left, exists_and_left, and_true, true_and, decide_eq_true_eq, reduceCtorEq, decide_false, decide_true, Bool.not_false, Bool.not_true, if_true, if_false, Bool.false_eq_true, Nat.reduceAdd, Nat.reduceSub, Bool.not_eq_true', decide_eq_false_iff_not, not_true_eq_false, not_false_eq_true]
    refine ⟨N0 + 1 - (n + 1), by omega, (s2.trans s3).trans s4, n + 1, roomB b L es lo hi (n + 1), _, rfl, by omega, rfl, .inr ⟨by omega, rfl⟩, fun m' h1 h2 => ?_⟩
    by_cases z : m' = n
    · subst z
      rcases hr with ⟨z, _⟩ | ⟨_, z⟩
      · omega
      · omega
    · exact hp m' h1 (by omega)
  · rw [decide_eq_false hr1]
    refine hstop H2 ?_
    simp only [tCompSet, tRaise, tIsi, tSeq, tAsg, gName, tOp, tUn, tVar, tC, tTest, tB, tIf, tIfS, tAnd, tOr, tNot, tAndV, tOrV, tNotV, tRet, tRetN, tNext, tDrop, tCB, tCons, tNil, tBM, tBM0, tCall, tLst, tTup, tSl, tPart, tNoPart, tIsN, tNotN, tYes, tBreak, tCont, rI0, rI, rU, rEq, rNe, L2.start, compSt, List.map_cons, List.map_nil, List.length_cons, List.length_nil, List.replicate_succ, List.replicate_zero, List.cons_append, List.nil_append, List.append_nil, List.getElem?_cons_zero, List.getElem?_cons_succ, List.set_cons_zero, List.set_cons_succ, Option.some.injEq, Option.join_some, V.int.injEq, V.str.injEq, V.bl.injEq, V.ref.injEq, txt_inj, exists_eq_left', exists_eq_left, exists_and_left, and_true, true_and, decide_eq_true_eq, reduceCtorEq, decide_false, decide_true, Bool.not_false, Bool.not_true, if_true, if_false, Bool.false_eq_true, Nat.reduceAdd, Nat.reduceSub, Bool.not_eq_true', decide_eq_false_iff_not, not_true_eq_false, not_false_eq_true]
    rcases hr with ⟨z, z2⟩ | ⟨z, rfl⟩
    · omega
    · exact q1 _ n s2 ⟨z, by omega, by omega, hp⟩
def spLeast (c : Addr) : Sp := fun vs H Q E => ∃ (L h j : Nat) (lo hi : Option (List Nat)) (k : Nat), vs = [.int L, .int h, .int j, oV lo, oV hi, .int k] ∧ Hands L h j ∧ MarksOk L lo hi ∧ 1 ≤ k ∧ k ≤ 10000 ∧ (OkLH lo hi → ∀ H' n, Same H H' → LeastB true L (endsL L h j) lo hi k n → Q (.int n) H') ∧ (¬ OkLH lo hi → E (.ref c) none H)
def rdLeast (c : Addr) (E : XK) : TS :=
    tSeq (tDrop (tCall (spAskRoom c) [] E (tCons (tVar 3) (tCons (tVar 4) tNil))))
      (tRet (tCall spLeastC [] E0 (tCons (tVar 0) (tCons (tCall spEnds [] E0 (tCons (tVar 0) (tCons (tVar 1) (tCons (tVar 2) tNil)))) (tCons (tVar 3) (tCons (tVar 4) (tCons (tVar 5) (tCons (tC (.bl true)) tNil))))))))
theorem read_least {c : Addr} {N : List Str} {vs : List V} {H : Hp} {Q : VK} {E : XK} (hN : N.length = 6) (h : spLeast c vs H Q E) : rdLeast c E { nx := fun _ H' => Q .non H', rt := Q } (L2.start N vs) H := by
  obtain ⟨L, h, j, lo, hi, k, rfl, D, M, hk1, hk2, q1, q2⟩ := h
  unfold rdLeast L2.start
  rw [hN]
  simp only [tCompSet, tRaise, tIsi, tSeq, tAsg, gName, tOp, tUn, tVar, tC, tTest, tB, tIf, tIfS, tAnd, tOr, tNot, tAndV, tOrV, tNotV, tRet, tRetN, tNext, tDrop, tCB, tCons, tNil, tBM, tBM0, tCall, tLst, tTup, tSl, tPart, tNoPart, tIsN, tNotN, tYes, tBreak, tCont, rI0, rI, rU, rEq, rNe, L2.start, compSt, List.map_cons, List.map_nil, List.length_cons, List.length_nil, List.replicate_succ, List.replicate_zero, List.cons_append, List.nil_append, List.append_nil, List.getElem?_cons_zero, List.getElem?_cons_succ, List.set_cons_zero, List.set_cons_succ, Option.some.injEq, Option.join_some, V.int.injEq, V.str.injEq, V.bl.injEq, V.ref.injEq, txt_inj, exists_eq_left', exists_eq_left, exists_and_left, and_true, true_and, decide_eq_true_eq, reduceCtorEq, decide_false, decide_true, Bool.not_false, Bool.not_true, if_true, if_false, Bool.false_eq_true, Nat.reduceAdd, Nat.reduceSub, Bool.not_eq_true', decide_eq_false_iff_not, not_true_eq_false, not_false_eq_true]
  refine ⟨lo, hi, rfl, fun ok => ?_, q2⟩
  simp only [tCompSet, tRaise, tIsi, tSeq, tAsg, gName, tOp, tUn, tVar, tC, tTest, tB, tIf, tIfS, tAnd, tOr, tNot, tAndV, tOrV, tNotV, tRet, tRetN, tNext, tDrop, tCB, tCons, tNil, tBM, tBM0, tCall, tLst, tTup, tSl, tPart, tNoPart, tIsN, tNotN, tYes, tBreak, tCont, rI0, rI, rU, rEq, rNe, L2.start, compSt, List.map_cons, List.map_nil, List.length_cons, List.length_nil, List.replicate_succ, List.replicate_zero, List.cons_append, List.nil_append, List.append_nil, List.getElem?_cons_zero, List.getElem?_cons_succ, List.set_cons_zero, List.set_cons_succ, Option.some.injEq, Option.join_some, V.int.injEq, V.str.injEq, V.bl.injEq, V.ref.injEq, txt_inj, exists_eq_left', exists_eq_left, exists_and_left, and_true, true_and, decide_eq_true_eq, reduceCtorEq, decide_false, decide_true, Bool.not_false, Bool.not_true, if_true, if_false, Bool.false_eq_true, Nat.reduceAdd, Nat.reduceSub, Bool.not_eq_true', decide_eq_false_iff_not, not_true_eq_false, not_false_eq_true]
  refine ⟨L, h, j, rfl, D.l26, by have := D.hj; omega, fun H1 s1 => ?_⟩
  exact ⟨L, _, lo, hi, k, true, rfl, D.l2, D.l26, endsL_len D.l26, ends_ok (K := L) D.hj D.hh, M, ok, hk1, hk2, fun H2 n s2 LN => q1 ok _ n (s1.trans s2) LN⟩
/-! ### told_number, mark_between -/
def toldI : Option (List Nat) → Option (List Nat) → Int → Int
  | some _, none, _ => 0
  | none, some _, z => z - 1
  | _, _, z => (z - 1) / 2
def spTold : Sp := fun vs H Q _ => ∃ (lo hi : Option (List Nat)) (z : Int), vs = [oV lo, oV hi, .int z] ∧ Q (.int (toldI lo hi z)) H
def rdTold : TS :=
    tSeq (tIfS (tAnd (tB (tIsN (tVar 1))) (tB (tNotN (tVar 0)))) (tRet (tC (.int 0))) (tNext))
      (tSeq (tIfS (tAnd (tB (tIsN (tVar 0))) (tB (tNotN (tVar 1)))) (tRet (tOp rSubI (tVar 2) (tC (.int 1)))) (tNext))
      (tRet (tOp rDivI (tOp rSubI (tVar 2) (tC (.int 1))) (tC (.int 2)))))
theorem read_told {N : List Str} {vs : List V} {H : Hp} {Q : VK} {E : XK} (hN : N.length = 3) (h : spTold vs H Q E) : rdTold { nx := fun _ H' => Q .non H', rt := Q } (L2.start N vs) H := by
  obtain ⟨lo, hi, z, rfl, q⟩ := h
  unfold rdTold L2.start
  rw [hN]
  cases lo <;> cases hi
  · simp only [oV, tCompSet, tRaise, tIsi, tSeq, tAsg, gName, tOp, tUn, tVar, tC, tTest, tB, tIf, tIfS, tAnd, tOr, tNot, tAndV, tOrV, tNotV, tRet, tRetN, tNext, tDrop, tCB, tCons, tNil, tBM, tBM0, tCall, tLst, tTup, tSl, tPart, tNoPart, tIsN, tNotN, tYes, tBreak, tCont, rI0, rI, rU, rEq, rNe, L2.start, compSt, List.map_cons, List.map_nil, List.length_cons, List.length_nil, List.replicate_succ, List.replicate_zero, List.cons_append, List.nil_append, List.append_nil, List.getElem?_cons_zero, List.getElem?_cons_succ, List.set_cons_zero, List.set_cons_succ, Option.some.injEq, Option.join_some, V.int.injEq, V.str.injEq, V.bl.injEq, V.ref.injEq, txt_inj, exists_eq_left', exists_eq_left, exists_and_left, and_true, true_and, decide_eq_true_eq, reduceCtorEq, decide_false, decide_true, Bool.not_false, Bool.not_true, if_true, if_false, Bool.false_eq_true, Nat.reduceAdd, Nat.reduceSub, Bool.not_eq_true', decide_eq_false_iff_not, not_true_eq_false, not_false_eq_true]
    exact ⟨cdiv (by decide) (by decide), q⟩
  · simp only [oV, tCompSet, tRaise, tIsi, tSeq, tAsg, gName, tOp, tUn, tVar, tC, tTest, tB, tIf, tIfS, tAnd, tOr, tNot, tAndV, tOrV, tNotV, tRet, tRetN, tNext, tDrop, tCB, tCons, tNil, tBM, tBM0, tCall, tLst, tTup, tSl, tPart, tNoPart, tIsN, tNotN, tYes, tBreak, tCont, rI0, rI, rU, rEq, rNe, L2.start, compSt, List.map_cons, List.map_nil, List.length_cons, List.length_nil, List.replicate_succ, List.replicate_zero, List.cons_append, List.nil_append, List.append_nil, List.getElem?_cons_zero, List.getElem?_cons_succ, List.set_cons_zero, List.set_cons_succ, Option.some.injEq, Option.join_some, V.int.injEq, V.str.injEq, V.bl.injEq, V.ref.injEq, txt_inj, exists_eq_left', exists_eq_left, exists_and_left, and_true, true_and, decide_eq_true_eq, reduceCtorEq, decide_false, decide_true, Bool.not_false, Bool.not_true, if_true, if_false, Bool.false_eq_true, Nat.reduceAdd, Nat.reduceSub, Bool.not_eq_true', decide_eq_false_iff_not, not_true_eq_false, not_false_eq_true]
    exact q
  · simp only [oV, tCompSet, tRaise, tIsi, tSeq, tAsg, gName, tOp, tUn, tVar, tC, tTest, tB, tIf, tIfS, tAnd, tOr, tNot, tAndV, tOrV, tNotV, tRet, tRetN, tNext, tDrop, tCB, tCons, tNil, tBM, tBM0, tCall, tLst, tTup, tSl, tPart, tNoPart, tIsN, tNotN, tYes, tBreak, tCont, rI0, rI, rU, rEq, rNe, L2.start, compSt, List.map_cons, List.map_nil, List.length_cons, List.length_nil, List.replicate_succ, List.replicate_zero, List.cons_append, List.nil_append, List.append_nil, List.getElem?_cons_zero, List.getElem?_cons_succ, List.set_cons_zero, List.set_cons_succ, Option.some.injEq, Option.join_some, V.int.injEq, V.str.injEq, V.bl.injEq, V.ref.injEq, txt_inj, exists_eq_left', exists_eq_left, exists_and_left, and_true, true_and, decide_eq_true_eq, reduceCtorEq, decide_false, decide_true, Bool.not_false, Bool.not_true, if_true, if_false, Bool.false_eq_true, Nat.reduceAdd, Nat.reduceSub, Bool.not_eq_true', decide_eq_false_iff_not, not_true_eq_false, not_false_eq_true]
    exact q
  · simp only [oV, tCompSet, tRaise, tIsi, tSeq, tAsg, gName, tOp, tUn, tVar, tC, tTest, tB, tIf, tIfS, tAnd, tOr, tNot, tAndV, tOrV, tNotV, tRet, tRetN, tNext, tDrop, tCB, tCons, tNil, tBM, tBM0, tCall, tLst, tTup, tSl, tPart, tNoPart, tIsN, tNotN, tYes, tBreak, tCont, rI0, rI, rU, rEq, rNe, L2.start, compSt, List.map_cons, List.map_nil, List.length_cons, List.length_nil, List.replicate_succ, List.replicate_zero, List.cons_append, List.nil_append, List.append_nil, List.getElem?_cons_zero, List.getElem?_cons_succ, List.set_cons_zero, List.set_cons_succ, Option.some.injEq, Option.join_some, V.int.injEq, V.str.injEq, V.bl.injEq, V.ref.injEq, txt_inj, exists_eq_left', exists_eq_left, exists_and_left, and_true, true_and, decide_eq_true_eq, reduceCtorEq, decide_false, decide_true, Bool.not_false, Bool.not_true, if_true, if_false, Bool.false_eq_true, Nat.reduceAdd, Nat.reduceSub, Bool.not_eq_true', decide_eq_false_iff_not, not_true_eq_false, not_false_eq_true]
    exact ⟨cdiv (by decide) (by decide), q⟩
/-- the mark between -/
structure Found (L : Nat) (es : List Nat) (lo hi : Option (List Nat)) (n w : Nat) (m : List Nat) : Prop where
  least : LeastB true L es lo hi 1 n
  eq : m = low L w n
  own : ow L es w = true
  ge : valO L lo n + 1 ≤ w
  lt : w < aheadN hi (highO L hi n) n
  at_ : (ob L es w : Int) = (ob L es (valO L lo n + 1) : Int) + toldI lo hi (roomI L es lo hi n)
def spBetween (c : Addr) : Sp := fun vs H Q E => ∃ (L h j : Nat) (lo hi : Option (List Nat)), vs = [.int L, .int h, .int j, oV lo, oV hi] ∧ Hands L h j ∧ MarksOk L lo hi ∧ (OkLH lo hi → ∀ H' n w m, Same H H' → Found L (endsL L h j) lo hi n w m → Q (.str (txt m)) H') ∧ (¬ OkLH lo hi → E (.ref c) none H)
def rdBetween (c : Addr) (E : XK) : TS :=
    tSeq (tAsg (tCall (spLeast c) [] E (tCons (tVar 0) (tCons (tVar 1) (tCons (tVar 2) (tCons (tVar 3) (tCons (tVar 4) (tCons (tC (.int 1)) tNil))))))) (gName 5))
      (tSeq (tAsg (tCall (spRoom c) [] E (tCons (tVar 0) (tCons (tVar 1) (tCons (tVar 2) (tCons (tVar 3) (tCons (tVar 4) (tCons (tVar 5) tNil))))))) (gName 6))
      (tRet (tCall (spNth c) [] E (tCons (tVar 0) (tCons (tVar 1) (tCons (tVar 2) (tCons (tVar 3) (tCons (tVar 4) (tCons (tVar 5) (tCons (tCall spTold [] E0 (tCons (tVar 3) (tCons (tVar 4) (tCons (tVar 6) tNil)))) tNil))))))))))
theorem told_in (lo hi : Option (List Nat)) {z : Int} (h : 0 < z) : 0 ≤ toldI lo hi z ∧ toldI lo hi z < z := by
  cases lo <;> cases hi <;> simp only [toldI] <;> omega
theorem read_between {c : Addr} {N : List Str} {vs : List V} {H : Hp} {Q : VK} {E : XK} (hN : N.length = 7) (h : spBetween c vs H Q E) : rdBetween c E { nx := fun _ H' => Q .non H', rt := Q } (L2.start N vs) H := by
  obtain ⟨L, h, j, lo, hi, rfl, D, M, q1, q2⟩ := h
  unfold rdBetween L2.start
  rw [hN]
  simp only [tCompSet, tRaise, tIsi, tSeq, tAsg, gName, tOp, tUn, tVar, tC, tTest, tB, tIf, tIfS, tAnd, tOr, tNot, tAndV, tOrV, tNotV, tRet, tRetN, tNext, tDrop, tCB, tCons, tNil, tBM, tBM0, tCall, tLst, tTup, tSl, tPart, tNoPart, tIsN, tNotN, tYes, tBreak, tCont, rI0, rI, rU, rEq, rNe, L2.start, compSt, List.map_cons, List.map_nil, List.length_cons, List.length_nil, List.replicate_succ, List.replicate_zero, List.cons_append, List.nil_append, List.append_nil, List.getElem?_cons_zero, List.getElem?_cons_succ, List.set_cons_zero, List.set_cons_succ, Option.some.injEq, Option.join_some, V.int.injEq, V.str.injEq, V.bl.injEq, V.ref.injEq, txt_inj, exists_eq_left', exists_eq_left, exists_and_left, and_true, true_and, decide_eq_true_eq, reduceCtorEq, decide_false, decide_true, Bool.not_false, Bool.not_true, if_true, if_false, Bool.false_eq_true, Nat.reduceAdd, Nat.reduceSub, Bool.not_eq_true', decide_eq_false_iff_not, not_true_eq_false, not_false_eq_true]
  refine ⟨L, h, j, lo, hi, 1, rfl, D, M, by omega, by omega, fun ok H1 n s1 LN => ?_, q2⟩
  have hl2 := D.l2
  have hL0 : 0 < L := by omega
  have EN := ends_ok (K := L) D.hj D.hh
  have hlen := M.lens
  have hn : n ≤ 1002 := by have := LN.len; omega
  have Rm := M.roomIn (n := n) D (by omega)
  refine ⟨L, h, j, lo, hi, n, rfl, Rm, fun _ H2 s2 => ?_, fun z => absurd ok z⟩
  refine ⟨lo, hi, _, rfl, ?_⟩
  have LNr : 0 < roomI L (endsL L h j) lo hi n := by have := LN.room; rw [roomB_true] at this; omega
  obtain ⟨t0, t1⟩ := told_in lo hi LNr
  obtain ⟨k, hk⟩ := Int.eq_ofNat_of_zero_le t0
  refine ⟨L, h, j, lo, hi, n, k, by rw [hk], Rm, D.hj, D.hh, fun _ H3 s3 => ?_, fun z => absurd ok z⟩
  have q := q1 ok H3 n (nth L (endsL L h j) (ob L (endsL L h j) (valO L lo n + 1) + k)) (low L (nth L (endsL L h j) (ob L (endsL L h j) (valO L lo n + 1) + k)) n) ((s1.trans s2).trans s3)
  obtain ⟨n', rfl⟩ : ∃ n', n = n' + 1 := ⟨n - 1, by have := LN.pos; omega⟩
  rw [mk_low hL0 (nth_mod EN _)]
  obtain ⟨o1, o2⟩ := ob_nth hL0 EN (ob L (endsL L h j) (valO L lo (n' + 1) + 1) + k)
  have hri : roomI L (endsL L h j) lo hi (n' + 1) = (ob L (endsL L h j) (aheadN hi (highO L hi (n' + 1)) (n' + 1)) : Nat) - (ob L (endsL L h j) (valO L lo (n' + 1) + 1) : Nat) := rfl
  obtain ⟨i1, i2⟩ := nth_in hL0 EN (A := valO L lo (n' + 1) + 1) (B := aheadN hi (highO L hi (n' + 1)) (n' + 1)) (p := ob L (endsL L h j) (valO L lo (n' + 1) + 1) + k) (by omega) (by omega)
  exact q ⟨LN, rfl, o2, i1, i2, by rw [o1, hk]; omega⟩
theorem own_iff {L h j : Nat} (hL : 0 < L) (w : Nat) : ow L (endsL L h j) w = true ↔ 0 < w % L ∧ (w % L - 1) % h = j := by
  unfold ow
  rw [decide_eq_true_iff, endsL_mem]
  have := Nat.mod_lt w hL
  constructor
  · rintro ⟨i, h1, h2, h3⟩
    have : w % L = i + 1 := by omega
    rw [this]
    exact ⟨by omega, h2⟩
  · rintro ⟨h1, h2⟩
    exact ⟨w % L - 1, by omega, h2, by omega⟩
theorem low_iff {L w n : Nat} (hL : 0 < L) (hw : w < L ^ (n + 1)) (h0 : w % L ≠ 0) {l : List Nat} (hl : Ls L l) : l < low L w (n + 1) ↔ val L l (n + 1) + 1 ≤ w := by
  rw [low_val hL (n + 1) hl (low_ls hL _ _) (fun c hc => by rw [low_last hL] at hc; have := Option.some.inj hc; omega) (low_length _ _ _), low_val_eq hL, Nat.mod_eq_of_lt hw]
  omega
theorem high_iff {L w n : Nat} (hL : 0 < L) (hw : w < L ^ n) {h : List Nat} (hh : Ls L h) (na : Na h) : low L w n < h ↔ w < aheadN (some h) (val L h n) n := by
  rw [high_val hL n hh (low_ls hL _ _) na (low_length _ _ _), low_val_eq hL, Nat.mod_eq_of_lt hw]
  have e : aheadN (some h) (val L h n) n = if n < h.length then val L h n + 1 else val L h n := rfl
  rw [e]
  by_cases z : n < h.length
  · rw [if_pos z]; omega
  · rw [if_neg z]; omega
theorem ahead_le {L : Nat} (n : Nat) (hL : 0 < L) {lo hi : Option (List Nat)} (M : MarksOk L lo hi) : aheadN hi (highO L hi n) n ≤ L ^ n := by
  cases hi with
  | none => exact Nat.le_refl _
  | some h =>
    have v := val_lt hL n (M.mhi h rfl).1.ls
    show (if n < h.length then val L h n + 1 else val L h n) ≤ L ^ n
    split <;> omega
end L2

set_option Elab.async false
set_option linter.all false
set_option maxRecDepth 100000
set_option maxHeartbeats 4000000
namespace L2
open PySem PySem.Spec PyProof.Rows MM
/-! ### the draw by divisions -/
/-! ### how marks grow -/
end L2

set_option Elab.async false
set_option linter.all false
set_option maxRecDepth 100000
set_option maxHeartbeats 4000000
/-! shared readings: spread, run_between -/
namespace L2
open PySem PySem.Spec PyProof.Rows MM
/-! ### evenly laid -/
theorem even_ge {i k R : Nat} (h : k ≤ R) : i + 1 ≤ (i + 1) * (R + 1) / (k + 1) := by
  rw [Nat.le_div_iff_mul_le (by omega)]
  exact Nat.mul_le_mul_left _ (by omega)
theorem even_lt {i k R : Nat} (h : i < k) : (i + 1) * (R + 1) / (k + 1) < R + 1 := by
  rw [Nat.div_lt_iff_lt_mul (by omega), Nat.mul_comm (R + 1)]
  exact Nat.mul_lt_mul_of_pos_right (by omega) (by omega)
theorem even_rise {i k R : Nat} (h : k ≤ R) : (i + 1) * (R + 1) / (k + 1) + 1 ≤ (i + 1 + 1) * (R + 1) / (k + 1) := by
  rw [Nat.le_div_iff_mul_le (by omega), Nat.add_mul, Nat.one_mul, Nat.add_mul (i + 1) 1, Nat.one_mul]
  have := Nat.div_mul_le_self ((i + 1) * (R + 1)) (k + 1)
  omega
def spSpread : Sp := fun vs H Q _ => ∃ (m W : Nat), vs = [.int m, .int W] ∧ m ≤ 100000 ∧ ∀ p, H p = none → Q (.ref p) (upd H p (.lst ((List.range m).map fun (k : Nat) => V.int (((k + 1) * W / (m + 1) : Nat) : Int))))
def rdSpread : TS := tRet (tComp (iRng1 (tCons (tVar 0) tNil)) [1, 0] tYes (tOp rDivI (tOp rMulI (tOp rAddI (tVar 0) (tC (.int 1))) (tVar 1)) (tOp rAddI (tVar 2) (tC (.int 1)))))
theorem read_spread {N : List Str} {vs : List V} {H : Hp} {Q : VK} {E : XK} (hN : N.length = 2) (h : spSpread vs H Q E) : rdSpread { nx := fun _ H' => Q .non H', rt := Q } (L2.start N vs) H := by
  obtain ⟨m, W, rfl, hm, q⟩ := h
  unfold rdSpread L2.start
  rw [hN]
  simp only [tCompSet, tRaise, tIsi, tSeq, tAsg, gName, tOp, tUn, tVar, tC, tTest, tB, tIf, tIfS, tAnd, tOr, tNot, tAndV, tOrV, tNotV, tRet, tRetN, tNext, tDrop, tCB, tCons, tNil, tBM, tBM0, tCall, tLst, tTup, tSl, tPart, tNoPart, tIsN, tNotN, tYes, tBreak, tCont, rI0, rI, rU, rEq, rNe, L2.start, compSt, List.map_cons, List.map_nil, List.length_cons, List.length_nil, List.replicate_succ, List.replicate_zero, List.cons_append, List.nil_append, List.append_nil, List.getElem?_cons_zero, List.getElem?_cons_succ, List.set_cons_zero, List.set_cons_succ, Option.some.injEq, Option.join_some, V.int.injEq, V.str.injEq, V.bl.injEq, V.ref.injEq, txt_inj, exists_eq_left', exists_eq_left, exists_and_left, and_true, true_and, decide_eq_true_eq, reduceCtorEq, decide_false, decide_true, Bool.not_false, Bool.not_true, if_true, if_false, Bool.false_eq_true, Nat.reduceAdd, Nat.reduceSub, Bool.not_eq_true', decide_eq_false_iff_not, not_true_eq_false, not_false_eq_true]
  refine comp_r1 (j := m) (fun Q h => ⟨_, rfl, h⟩) (by omega) (by omega) (Nat.le_trans (show (m : Int).toNat ≤ 100000 by omega) (by decide))
    (fun i ys H' => H' = H ∧ ys = (List.range i).map fun (k : Nat) => V.int (((k + 1) * W / (m + 1) : Nat) : Int)) ⟨rfl, rfl⟩
    (fun i ys H' _ p => by rw [p.2, List.length_map, List.length_range]; exact Nat.le_refl _) ?_ ?_
  · rintro i ys H' hi ⟨rfl, rfl⟩ R hR
    simp only [tCompSet, tRaise, tIsi, tSeq, tAsg, gName, tOp, tUn, tVar, tC, tTest, tB, tIf, tIfS, tAnd, tOr, tNot, tAndV, tOrV, tNotV, tRet, tRetN, tNext, tDrop, tCB, tCons, tNil, tBM, tBM0, tCall, tLst, tTup, tSl, tPart, tNoPart, tIsN, tNotN, tYes, tBreak, tCont, rI0, rI, rU, rEq, rNe, L2.start, compSt, List.map_cons, List.map_nil, List.length_cons, List.length_nil, List.replicate_succ, List.replicate_zero, List.cons_append, List.nil_append, List.append_nil, List.getElem?_cons_zero, List.getElem?_cons_succ, List.set_cons_zero, List.set_cons_succ, Option.some.injEq, Option.join_some, V.int.injEq, V.str.injEq, V.bl.injEq, V.ref.injEq, txt_inj, exists_eq_left', exists_eq_left, exists_and_left, and_true, true_and, decide_eq_true_eq, reduceCtorEq, decide_false, decide_true, Bool.not_false, Bool.not_true, if_true, if_false, Bool.false_eq_true, Nat.reduceAdd, Nat.reduceSub, Bool.not_eq_true', decide_eq_false_iff_not, not_true_eq_false, not_false_eq_true]
    refine ⟨mulB_l (by omega) (by omega), cdiv (by omega) (by omega), hR _ _ ⟨rfl, ?_⟩⟩
    rw [List.range_succ, List.map_append, List.map_cons, List.map_nil, Int.natCast_ediv, Int.natCast_mul]
    rfl
  · rintro ys H' ⟨rfl, rfl⟩ p hp
    rw [Int.toNat_natCast]
    exact q p hp
/-! ### run_between -/
def runW (L : Nat) (es : List Nat) (lo hi : Option (List Nat)) (n k i : Nat) : Nat := nth L es (ob L es (valO L lo n + 1) + ((i + 1) * ((roomI L es lo hi n).toNat + 1) / (k + 1) - 1))
def runL (L : Nat) (es : List Nat) (lo hi : Option (List Nat)) (n k : Nat) : List (List Nat) := (List.range k).map fun i => low L (runW L es lo hi n k i) n
def spRun (c : Addr) : Sp := fun vs H Q E => ∃ (L h j : Nat) (lo hi : Option (List Nat)) (k : Nat), vs = [.int L, .int h, .int j, oV lo, oV hi, .int k] ∧ Hands L h j ∧ MarksOk L lo hi ∧ 1 ≤ k ∧ k ≤ 10000 ∧
  (OkLH lo hi → ∀ H' n p, Same H H' → H' p = none → LeastB true L (endsL L h j) lo hi k n → Q (.ref p) (upd H' p (.lst ((runL L (endsL L h j) lo hi n k).map strV)))) ∧ (¬ OkLH lo hi → E (.ref c) none H)
def rdRun (K : PySem.W.Frag) (c : Addr) (E : XK) : TS :=
    tSeq (tAsg (tCall (spLeast c) [] E (tCons (tVar 0) (tCons (tVar 1) (tCons (tVar 2) (tCons (tVar 3) (tCons (tVar 4) (tCons (tVar 5) tNil))))))) (gName 6))
      (tSeq (tAsg (tCall (spRoom c) [] E (tCons (tVar 0) (tCons (tVar 1) (tCons (tVar 2) (tCons (tVar 3) (tCons (tVar 4) (tCons (tVar 6) tNil))))))) (gName 7))
      (tSeq (tAsg (tCall spSpread [] E0 (tCons (tVar 5) (tCons (tOp rAddI (tVar 7) (tC (.int 1))) tNil))) (gName 8))
      (tRet (tComp (iList K (tVar 8)) [0, 1, 2, 3, 4, 6] tYes (tCall (spNth c) [] E0 (tCons (tVar 1) (tCons (tVar 2) (tCons (tVar 3) (tCons (tVar 4) (tCons (tVar 5) (tCons (tVar 6) (tCons (tOp rSubI (tVar 0) (tC (.int 1))) tNil))))))))))))
theorem read_run {K : PySem.W.Frag} {c : Addr} {N : List Str} {vs : List V} {H : Hp} {Q : VK} {E : XK} (hN : N.length = 9) (h : spRun c vs H Q E) : rdRun K c E { nx := fun _ H' => Q .non H', rt := Q } (L2.start N vs) H := by
  obtain ⟨L, h, j, lo, hi, k, rfl, D, M, hk1, hk2, q1, q2⟩ := h
  unfold rdRun L2.start
  rw [hN]
  simp only [tCompSet, tRaise, tIsi, tSeq, tAsg, gName, tOp, tUn, tVar, tC, tTest, tB, tIf, tIfS, tAnd, tOr, tNot, tAndV, tOrV, tNotV, tRet, tRetN, tNext, tDrop, tCB, tCons, tNil, tBM, tBM0, tCall, tLst, tTup, tSl, tPart, tNoPart, tIsN, tNotN, tYes, tBreak, tCont, rI0, rI, rU, rEq, rNe, L2.start, compSt, List.map_cons, List.map_nil, List.length_cons, List.length_nil, List.replicate_succ, List.replicate_zero, List.cons_append, List.nil_append, List.append_nil, List.getElem?_cons_zero, List.getElem?_cons_succ, List.set_cons_zero, List.set_cons_succ, Option.some.injEq, Option.join_some, V.int.injEq, V.str.injEq, V.bl.injEq, V.ref.injEq, txt_inj, exists_eq_left', exists_eq_left, exists_and_left, and_true, true_and, decide_eq_true_eq, reduceCtorEq, decide_false, decide_true, Bool.not_false, Bool.not_true, if_true, if_false, Bool.false_eq_true, Nat.reduceAdd, Nat.reduceSub, Bool.not_eq_true', decide_eq_false_iff_not, not_true_eq_false, not_false_eq_true]
  refine ⟨L, h, j, lo, hi, k, rfl, D, M, hk1, hk2, fun ok H1 n s1 LN => ?_, q2⟩
  have hlen := M.lens
  have hn : n ≤ 11001 := by have := LN.len; omega
  have Rm := M.roomIn (n := n) D (by omega)
  have hL0 : 0 < L := by have := D.l2; omega
  have EN := ends_ok (K := L) D.hj D.hh
  refine ⟨L, h, j, lo, hi, n, rfl, Rm, fun _ H2 s2 => ?_, fun z => absurd ok z⟩
  have hR : (k : Int) ≤ roomI L (endsL L h j) lo hi n := LN.room
  obtain ⟨R, hR2⟩ := Int.eq_ofNat_of_zero_le (a := roomI L (endsL L h j) lo hi n) (by omega)
  rw [hR2]
  simp only [tCompSet, tRaise, tIsi, tSeq, tAsg, gName, tOp, tUn, tVar, tC, tTest, tB, tIf, tIfS, tAnd, tOr, tNot, tAndV, tOrV, tNotV, tRet, tRetN, tNext, tDrop, tCB, tCons, tNil, tBM, tBM0, tCall, tLst, tTup, tSl, tPart, tNoPart, tIsN, tNotN, tYes, tBreak, tCont, rI0, rI, rU, rEq, rNe, L2.start, compSt, List.map_cons, List.map_nil, List.length_cons, List.length_nil, List.replicate_succ, List.replicate_zero, List.cons_append, List.nil_append, List.append_nil, List.getElem?_cons_zero, List.getElem?_cons_succ, List.set_cons_zero, List.set_cons_succ, Option.some.injEq, Option.join_some, V.int.injEq, V.str.injEq, V.bl.injEq, V.ref.injEq, txt_inj, exists_eq_left', exists_eq_left, exists_and_left, and_true, true_and, decide_eq_true_eq, reduceCtorEq, decide_false, decide_true, Bool.not_false, Bool.not_true, if_true, if_false, Bool.false_eq_true, Nat.reduceAdd, Nat.reduceSub, Bool.not_eq_true', decide_eq_false_iff_not, not_true_eq_false, not_false_eq_true]
  refine ⟨k, R + 1, rfl, by omega, fun p hp => ?_⟩
  have hq := q1 ok
  have er : ∀ i, runW L (endsL L h j) lo hi n k i = nth L (endsL L h j) (ob L (endsL L h j) (valO L lo n + 1) + ((i + 1) * (R + 1) / (k + 1) - 1)) := fun i => by unfold runW; rw [hR2]; rfl
  refine comp_l (a := p) (xs := (List.range k).map fun (i : Nat) => V.int (((i + 1) * (R + 1) / (k + 1) : Nat) : Int)) (fun Q h => ⟨_, rfl, h⟩) SqL.here
    (fun i ys H' => Same (upd H2 p (.lst ((List.range k).map fun (i : Nat) => V.int (((i + 1) * (R + 1) / (k + 1) : Nat) : Int)))) H' ∧ ys = ((List.range i).map fun i => low L (runW L (endsL L h j) lo hi n k i) n).map strV) ⟨Same.refl _, rfl⟩
    (fun i ys H' _ p => ⟨p.1.seq SqL.here, by rw [p.2, List.length_map, List.length_map, List.length_range]; exact Nat.le_refl _⟩) (by rw [List.length_map, List.length_range, sizeLine_eq]; omega) ?_ ?_
  · rintro i x ys H' hx ⟨s3, rfl⟩ R0 hR0
    rw [List.getElem?_map] at hx
    have hik : i < k := by
      rcases Nat.lt_or_ge i k with z | z
      · exact z
      · rw [List.getElem?_eq_none (by rw [List.length_range]; exact z)] at hx; cases hx
    rw [List.getElem?_range hik] at hx
    cases Option.some.inj hx
    simp only [tCompSet, tRaise, tIsi, tSeq, tAsg, gName, tOp, tUn, tVar, tC, tTest, tB, tIf, tIfS, tAnd, tOr, tNot, tAndV, tOrV, tNotV, tRet, tRetN, tNext, tDrop, tCB, tCons, tNil, tBM, tBM0, tCall, tLst, tTup, tSl, tPart, tNoPart, tIsN, tNotN, tYes, tBreak, tCont, rI0, rI, rU, rEq, rNe, L2.start, compSt, List.map_cons, List.map_nil, List.length_cons, List.length_nil, List.replicate_succ, List.replicate_zero, List.cons_append, List.nil_append, List.append_nil, List.getElem?_cons_zero, List.getElem?_cons_succ, List.set_cons_zero, List.set_cons_succ, Option.some.injEq, Option.join_some, V.int.injEq, V.str.injEq, V.bl.injEq, V.ref.injEq, txt_inj, exists_eq_left', exists_eq_left, exists_and_left, and_true, true_and, decide_eq_true_eq, reduceCtorEq, decide_false, decide_true, Bool.not_false, Bool.not_true, if_true, if_false, Bool.false_eq_true, Nat.reduceAdd, Nat.reduceSub, Bool.not_eq_true', decide_eq_false_iff_not, not_true_eq_false, not_false_eq_true]
    have g1 := even_ge (i := i) (k := k) (R := R) (by omega)
    refine ⟨L, h, j, lo, hi, n, (i + 1) * (R + 1) / (k + 1) - 1, ?_, Rm, D.hj, D.hh, fun _ H3 s4 => hR0 _ _ ⟨s3.trans s4, ?_⟩, fun z => absurd ok z⟩
    · generalize (i + 1) * (R + 1) / (k + 1) = z at g1
      rw [show ((z : Nat) : Int) - 1 = ((z - 1 : Nat) : Int) by omega]
    · rw [List.range_succ, List.map_append, List.map_append, List.map_cons, List.map_nil, List.map_cons, List.map_nil, er i]
      obtain ⟨n', rfl⟩ : ∃ n', n = n' + 1 := ⟨n - 1, by have := LN.pos; omega⟩
      rw [mk_low hL0 (nth_mod EN _)]
      rfl
  · rintro ys H' ⟨s3, rfl⟩ p2 hp2
    rw [List.length_map, List.length_range]
    exact hq H' n p2 (((s1.trans s2).trans (Same.up _ hp)).trans s3) hp2 LN
/-- what the i-th of a run is -/
structure RunAt (L : Nat) (es : List Nat) (lo hi : Option (List Nat)) (n k R i w : Nat) : Prop where
  own : ow L es w = true
  ge : valO L lo n + 1 ≤ w
  lt : w < aheadN hi (highO L hi n) n
  at_ : ob L es w = ob L es (valO L lo n + 1) + ((i + 1) * (R + 1) / (k + 1) - 1)
theorem run_at {L h j : Nat} {lo hi : Option (List Nat)} {n k R i : Nat} (D : Hands L h j) (LN : LeastB true L (endsL L h j) lo hi k n) (hR : roomI L (endsL L h j) lo hi n = (R : Nat)) (hi' : i < k) : RunAt L (endsL L h j) lo hi n k R i (runW L (endsL L h j) lo hi n k i) := by
  have hL0 : 0 < L := by have := D.l2; omega
  have EN := ends_ok (K := L) D.hj D.hh
  have hkR : k ≤ R := by have := LN.room; rw [roomB_true, hR] at this; omega
  have g1 := even_ge (i := i) hkR
  have g2 := even_lt (R := R) hi'
  have e : runW L (endsL L h j) lo hi n k i = nth L (endsL L h j) (ob L (endsL L h j) (valO L lo n + 1) + ((i + 1) * (R + 1) / (k + 1) - 1)) := by unfold runW; rw [hR]; rfl
  rw [e]
  obtain ⟨o1, o2⟩ := ob_nth hL0 EN (ob L (endsL L h j) (valO L lo n + 1) + ((i + 1) * (R + 1) / (k + 1) - 1))
  have hri : roomI L (endsL L h j) lo hi n = (ob L (endsL L h j) (aheadN hi (highO L hi n) n) : Nat) - (ob L (endsL L h j) (valO L lo n + 1) : Nat) := rfl
  rw [hri] at hR
  obtain ⟨i1, i2⟩ := nth_in hL0 EN (A := valO L lo n + 1) (B := aheadN hi (highO L hi n) n) (p := ob L (endsL L h j) (valO L lo n + 1) + ((i + 1) * (R + 1) / (k + 1) - 1)) (by omega) (by omega)
  exact ⟨o2, i1, i2, o1⟩
theorem ahead_ge {L : Nat} {lo hi : Option (List Nat)} (n : Nat) (hL : 0 < L) (M : MarksOk L lo hi) (ok : OkLH lo hi) : valO L lo n + 1 ≤ aheadN hi (highO L hi n) n := by
  cases hi with
  | none =>
    cases lo with
    | none => exact Nat.pow_pos hL
    | some l => exact val_lt hL n (M.mlo l rfl).1.ls
  | some h =>
    have e : aheadN (some h) (highO L (some h) n) n = if n < h.length then val L h n + 1 else val L h n := rfl
    rw [e]
    cases lo with
    | none =>
      show 0 + 1 ≤ _
      split
      · omega
      · exact val_pos hL n (M.mhi h rfl).1.ls (M.mhi h rfl).1.na (M.mhi h rfl).1.ne (by omega)
    | some l =>
      have := ends_le hL n (M.mlo l rfl).1.ls (M.mhi h rfl).1.ls (M.mhi h rfl).1.na (ok l h rfl rfl)
      show val L l n + 1 ≤ _
      split <;> omega
end L2

set_option Elab.async false
set_option linter.all false
set_option maxRecDepth 100000
set_option maxHeartbeats 4000000
namespace K07
open PySem PySem.Spec PyProof.Rows L2 MM
def top (i : Nat) : Stmt := PySem.Challenge.pw_shelfmark_k07_runs.main.body.getD i (.Pass ⟨0, 0, 0, 0⟩)
abbrev s_power : Stmt := top 5
abbrev s_figure_at : Stmt := top 6
abbrev s_whole_of : Stmt := top 7
abbrev s_mark_of : Stmt := top 8
abbrev s_ends_of : Stmt := top 10
abbrev s_ask_room : Stmt := top 11
abbrev s_high_whole_of : Stmt := top 12
abbrev s_owned_below : Stmt := top 13
abbrev s_owned_up_to_low : Stmt := top 14
abbrev s_owned_ahead_of_high : Stmt := top 15
abbrev s_counted_at : Stmt := top 16
abbrev s_room_at : Stmt := top 17
abbrev s_nth_mark : Stmt := top 18
abbrev s_least_counted : Stmt := top 20
abbrev s_least_long : Stmt := top 21
abbrev s_told_number : Stmt := top 22
abbrev s_mark_between : Stmt := top 23
abbrev s_spread : Stmt := top 25
abbrev s_run_between : Stmt := top 26
abbrev s_draw : Stmt := top 28
abbrev s_mark : Stmt := top 29
abbrev s_pair : Stmt := top 30
abbrev s_whole : Stmt := top 31
abbrev s_many : Stmt := top 32
abbrev s_room : Stmt := top 33
abbrev s_good : Stmt := top 34
abbrev s_refused : Stmt := top 35
abbrev s_law : Stmt := top 36
structure Ad where
  (c_NoRoom c_ShelfError f_power f_figure_at f_whole_of f_mark_of f_ends_of f_ask_room f_high_whole_of f_owned_below f_owned_up_to_low f_owned_ahead_of_high f_counted_at f_room_at f_nth_mark f_least_counted f_least_long f_told_number f_mark_between f_spread f_run_between f_draw f_mark f_pair f_whole f_many f_room f_good f_refused f_law : Addr)
  (fd_power fd_figure_at fd_whole_of fd_mark_of fd_ends_of fd_ask_room fd_high_whole_of fd_owned_below fd_owned_up_to_low fd_owned_ahead_of_high fd_counted_at fd_room_at fd_nth_mark fd_least_counted fd_least_long fd_told_number fd_mark_between fd_spread fd_run_between fd_draw fd_mark fd_pair fd_whole fd_many fd_room fd_good fd_refused fd_law : FuncData)
structure Tx (K : PySem.W.Frag) (mg : Str → Option Value) (a : Ad) : Prop where
  n_int : mg "int" = none
  n_isinstance : mg "isinstance" = none
  n_len : mg "len" = none
  n_list : mg "list" = none
  n_max : mg "max" = none
  n_min : mg "min" = none
  n_range : mg "range" = none
  c_SMALL : ∃ t, mg "SMALL" = some (.str "abcdefghijklmnopqrstuvwxyz" t)
  m_NoRoom : mg "NoRoom" = some (.ref a.c_NoRoom)
  x_NoRoom : PySem.W.excIn K a.c_NoRoom [.type "ValueError", .type "Exception", .type "BaseException", .type "object"] "ValueError.__new__" = true
  m_ShelfError : mg "ShelfError" = some (.ref a.c_ShelfError)
  x_ShelfError : PySem.W.excIn K a.c_ShelfError [.type "ValueError", .type "Exception", .type "BaseException", .type "object"] "ValueError.__new__" = true
  s_NoRoom_ShelfError : PySem.W.mroIn K a.c_NoRoom (.ref a.c_ShelfError) = some true
  g_power : mg "power" = some (.ref a.f_power)
  F_power : Fun K "power" "power" s_power a.f_power a.fd_power
  b_power : Binds K a.fd_power ["letters", "long"] []
  g_figure_at : mg "figure_at" = some (.ref a.f_figure_at)
  F_figure_at : Fun K "figure_at" "figure_at" s_figure_at a.f_figure_at a.fd_figure_at
  b_figure_at : Binds K a.fd_figure_at ["mark", "place"] []
  g_whole_of : mg "whole_of" = some (.ref a.f_whole_of)
  F_whole_of : Fun K "whole_of" "whole_of" s_whole_of a.f_whole_of a.fd_whole_of
  b_whole_of : Binds K a.fd_whole_of ["letters", "mark", "long"] []
  g_mark_of : mg "mark_of" = some (.ref a.f_mark_of)
  F_mark_of : Fun K "mark_of" "mark_of" s_mark_of a.f_mark_of a.fd_mark_of
  b_mark_of : Binds K a.fd_mark_of ["letters", "number", "long"] []
  g_ends_of : mg "ends_of" = some (.ref a.f_ends_of)
  F_ends_of : Fun K "ends_of" "ends_of" s_ends_of a.f_ends_of a.fd_ends_of
  b_ends_of : Binds K a.fd_ends_of ["letters", "hands", "hand"] []
  g_ask_room : mg "ask_room" = some (.ref a.f_ask_room)
  F_ask_room : Fun K "ask_room" "ask_room" s_ask_room a.f_ask_room a.fd_ask_room
  b_ask_room : Binds K a.fd_ask_room ["low", "high"] []
  g_high_whole_of : mg "high_whole_of" = some (.ref a.f_high_whole_of)
  F_high_whole_of : Fun K "high_whole_of" "high_whole_of" s_high_whole_of a.f_high_whole_of a.fd_high_whole_of
  b_high_whole_of : Binds K a.fd_high_whole_of ["letters", "high", "long"] []
  g_owned_below : mg "owned_below" = some (.ref a.f_owned_below)
  F_owned_below : Fun K "owned_below" "owned_below" s_owned_below a.f_owned_below a.fd_owned_below
  b_owned_below : Binds K a.fd_owned_below ["letters", "ends", "number"] []
  g_owned_up_to_low : mg "owned_up_to_low" = some (.ref a.f_owned_up_to_low)
  F_owned_up_to_low : Fun K "owned_up_to_low" "owned_up_to_low" s_owned_up_to_low a.f_owned_up_to_low a.fd_owned_up_to_low
  b_owned_up_to_low : Binds K a.fd_owned_up_to_low ["letters", "ends", "low_whole"] []
  g_owned_ahead_of_high : mg "owned_ahead_of_high" = some (.ref a.f_owned_ahead_of_high)
  F_owned_ahead_of_high : Fun K "owned_ahead_of_high" "owned_ahead_of_high" s_owned_ahead_of_high a.f_owned_ahead_of_high a.fd_owned_ahead_of_high
  b_owned_ahead_of_high : Binds K a.fd_owned_ahead_of_high ["letters", "ends", "high", "high_whole", "long", "beginnings"] []
  g_counted_at : mg "counted_at" = some (.ref a.f_counted_at)
  F_counted_at : Fun K "counted_at" "counted_at" s_counted_at a.f_counted_at a.fd_counted_at
  b_counted_at : Binds K a.fd_counted_at ["letters", "ends", "low", "high", "long", "beginnings"] []
  g_room_at : mg "room_at" = some (.ref a.f_room_at)
  F_room_at : Fun K "room_at" "room_at" s_room_at a.f_room_at a.fd_room_at
  b_room_at : Binds K a.fd_room_at ["letters", "hands", "hand", "low", "high", "long"] []
  g_nth_mark : mg "nth_mark" = some (.ref a.f_nth_mark)
  F_nth_mark : Fun K "nth_mark" "nth_mark" s_nth_mark a.f_nth_mark a.fd_nth_mark
  b_nth_mark : Binds K a.fd_nth_mark ["letters", "hands", "hand", "low", "high", "long", "number"] []
  g_least_counted : mg "least_counted" = some (.ref a.f_least_counted)
  F_least_counted : Fun K "least_counted" "least_counted" s_least_counted a.f_least_counted a.fd_least_counted
  b_least_counted : Binds K a.fd_least_counted ["letters", "ends", "low", "high", "many", "beginnings"] []
  g_least_long : mg "least_long" = some (.ref a.f_least_long)
  F_least_long : Fun K "least_long" "least_long" s_least_long a.f_least_long a.fd_least_long
  b_least_long : Binds K a.fd_least_long ["letters", "hands", "hand", "low", "high", "many"] []
  g_told_number : mg "told_number" = some (.ref a.f_told_number)
  F_told_number : Fun K "told_number" "told_number" s_told_number a.f_told_number a.fd_told_number
  b_told_number : Binds K a.fd_told_number ["low", "high", "many"] []
  g_mark_between : mg "mark_between" = some (.ref a.f_mark_between)
  F_mark_between : Fun K "mark_between" "mark_between" s_mark_between a.f_mark_between a.fd_mark_between
  b_mark_between : Binds K a.fd_mark_between ["letters", "hands", "hand", "low", "high"] []
  g_spread : mg "spread" = some (.ref a.f_spread)
  F_spread : Fun K "spread" "spread" s_spread a.f_spread a.fd_spread
  b_spread : Binds K a.fd_spread ["many", "whole"] []
  g_run_between : mg "run_between" = some (.ref a.f_run_between)
  F_run_between : Fun K "run_between" "run_between" s_run_between a.f_run_between a.fd_run_between
  b_run_between : Binds K a.fd_run_between ["letters", "hands", "hand", "low", "high", "many"] []
  g_draw : mg "_law_draw" = some (.ref a.f_draw)
  F_draw : Fun K "_law_draw" "_law_draw" s_draw a.f_draw a.fd_draw
  b_draw : Binds K a.fd_draw ["_law_script", "_law_k", "_law_many_here"] []
  g_mark : mg "_law_mark" = some (.ref a.f_mark)
  F_mark : Fun K "_law_mark" "_law_mark" s_mark a.f_mark a.fd_mark
  b_mark : Binds K a.fd_mark ["_law_script", "_law_base", "_law_letters"] []
  g_pair : mg "_law_pair" = some (.ref a.f_pair)
  F_pair : Fun K "_law_pair" "_law_pair" s_pair a.f_pair a.fd_pair
  b_pair : Binds K a.fd_pair ["_law_script", "_law_letters"] []
  g_whole : mg "_law_whole" = some (.ref a.f_whole)
  F_whole : Fun K "_law_whole" "_law_whole" s_whole a.f_whole a.fd_whole
  b_whole : Binds K a.fd_whole ["_law_letters", "_law_mark_here", "_law_long"] []
  g_many : mg "_law_many" = some (.ref a.f_many)
  F_many : Fun K "_law_many" "_law_many" s_many a.f_many a.fd_many
  b_many : Binds K a.fd_many ["_law_letters", "_law_ends", "_law_least", "_law_most"] []
  g_room : mg "_law_room" = some (.ref a.f_room)
  F_room : Fun K "_law_room" "_law_room" s_room a.f_room a.fd_room
  b_room : Binds K a.fd_room ["_law_letters", "_law_ends", "_law_low", "_law_high", "_law_long"] []
  g_good : mg "_law_good" = some (.ref a.f_good)
  F_good : Fun K "_law_good" "_law_good" s_good a.f_good a.fd_good
  b_good : Binds K a.fd_good ["_law_letters", "_law_ends", "_law_low", "_law_high", "_law_marks"] []
  g_refused : mg "_law_refused" = some (.ref a.f_refused)
  F_refused : Fun K "_law_refused" "_law_refused" s_refused a.f_refused a.fd_refused
  b_refused : Binds K a.fd_refused ["_law_letters", "_law_hands", "_law_hand", "_law_low", "_law_high", "_law_many_here"] []
  g_law : mg "law" = some (.ref a.f_law)
  F_law : Fun K "law" "law" s_law a.f_law a.fd_law
  b_law : Binds K a.fd_law ["_law_script"] []
end K07
namespace K07
open PySem PySem.Spec PyProof.Rows L2 MM
set_option linter.all false
set_option maxRecDepth 100000
set_option maxHeartbeats 4000000
def spLaw (K : PySem.W.Frag) : Sp := fun vs H Q _ => ∃ (a : Addr) (ns : List Int), vs = [.ref a] ∧ SqL K H a (ns.map V.int) ∧ ns.length ≤ 63 ∧ ∀ H', Q (.bl true) H'
def spMark (K : PySem.W.Frag) : Sp := fun vs H Q _ => ∃ (a : Addr) (ns : List Int) (b : Int) (L : Nat), vs = [.ref a, .int b, .int L] ∧ SqL K H a (ns.map V.int) ∧ ns.length ≤ 63 ∧ 0 ≤ b ∧ b ≤ 100 ∧ 2 ≤ L ∧ L ≤ 26 ∧ ∀ m, Mark L m → m.length ≤ 6 → Q (.str (txt m)) H
def LeOk (lo hi : Option (List Nat)) : Prop := ∀ l h, lo = some l → hi = some h → l < h ∨ l = h
def spPair (K : PySem.W.Frag) : Sp := fun vs H Q _ => ∃ (a : Addr) (ns : List Int) (L : Nat), vs = [.ref a, .int L] ∧ SqL K H a (ns.map V.int) ∧ ns.length ≤ 63 ∧ 2 ≤ L ∧ L ≤ 26 ∧ ∀ p lo hi, H p = none → MarksOk L lo hi → LeOk lo hi → Q (.ref p) (upd H p (.tup [oV lo, oV hi]))
/-- the hand's ends as figures -/
def figs (L h j : Nat) : List V := (endsL L h j).map fun e => V.int ((e - 97 : Nat) : Int)
def spMany (K : PySem.W.Frag) : Sp := fun vs H Q _ => ∃ (p : Addr) (L h j A N : Nat), vs = [.int L, .ref p, .int A, .int ((N : Int) - 1)] ∧ SqL K H p (figs L h j) ∧ Hands L h j ∧ A ≤ N ∧ Q (.int ((ob L (endsL L h j) N : Int) - (ob L (endsL L h j) A : Int))) H
def spLRoom (K : PySem.W.Frag) : Sp := fun vs H Q _ => ∃ (p : Addr) (L h j : Nat) (lo hi : Option (List Nat)) (n : Nat), vs = [.int L, .ref p, oV lo, oV hi, .int n] ∧ SqL K H p (figs L h j) ∧ Hands L h j ∧ MarksOk L lo hi ∧ OkLH lo hi ∧ n ≤ 20000 ∧ ∀ r, H r = none → Q (.ref r) (upd H r (.tup [.int (valO L lo n + 1 : Nat), .int (roomI L (endsL L h j) lo hi n)]))
def spGood (K : PySem.W.Frag) : Sp := fun vs H Q _ => ∃ (p pm : Addr) (L h j : Nat) (lo hi : Option (List Nat)) (n k : Nat), vs = [.int L, .ref p, oV lo, oV hi, .ref pm] ∧ SqL K H p (figs L h j) ∧ SqL K H pm ((runL L (endsL L h j) lo hi n k).map strV) ∧ Hands L h j ∧ MarksOk L lo hi ∧ OkLH lo hi ∧ 1 ≤ k ∧ k ≤ 10000 ∧ LeastB true L (endsL L h j) lo hi k n ∧ ∀ H', Same H H' → Q (.bl true) H'
def spRefused : Sp := fun vs H Q _ => ∃ (L h j : Nat) (lo hi : Option (List Nat)) (k : Nat), vs = [.int L, .int h, .int j, oV lo, oV hi, .int k] ∧ Hands L h j ∧ MarksOk L lo hi ∧ 1 ≤ k ∧ k ≤ 10000 ∧ ¬ OkLH lo hi ∧ ∀ H', Same H H' → Q (.bl true) H'
theorem sc_power : FnScope ["letters", "long", "product", "step"] ["letters", "long"] (defScope s_power) := ⟨rfl, rfl, rfl, by decide +kernel, rfl, by decide +kernel, by decide +kernel⟩
/-- slots: 0 letters, 1 long, 2 product, 3 step -/
def rd_power (K : PySem.W.Frag) (a : Ad) : TS :=
    tSeq (tAsg (tC (.int 1)) (gName 2))
      (tSeq (tFor (iRng1 (tCons (tVar 1) tNil)) (gName 3) (tAsg (tOp rMulI (tVar 2) (tVar 0)) (gName 2)))
      (tRet (tVar 2)))
theorem pr_power {P : Program} {w : World} {K : PySem.W.Frag} {mg : Str → Option Value} {base : Heap} {a : Ad} (T : Tx K mg a) {f : Addr} {cdv : Value} {A : Around} {outer : List Env} {s : Shared} {H : Hp} {E : XK} (hr : Room 0 (A.deeper (envOfC "power" (defScope s_power) s.heap.objs.size f cdv))) :
    QSs (cxOf CX0 P w K mg base ["letters", "long", "product", "step"] "power" (defScope s_power) f cdv A outer s H E).nox (defBody s_power) (rd_power K a) := by
  exact kss_cons (ks_set (i := 2) sc_power.nd ke_int)
      (kss_cons (ks_for (ki_range1 T.n_range (ka_cons (kv 1) ka_nil)) (kg_name (i := 3) sc_power.nd) (kss_one (ks_set (i := 2) sc_power.nd (ke_op op_mulB (kv 2) (kv 0)))))
      (kss_one (ks_ret (kv 2))))
theorem sc_figure_at : FnScope ["mark", "place"] ["mark", "place"] (defScope s_figure_at) := ⟨rfl, rfl, rfl, by decide +kernel, rfl, by decide +kernel, by decide +kernel⟩
/-- slots: 0 mark, 1 place -/
def rd_figure_at (K : PySem.W.Frag) (a : Ad) : TS :=
    tSeq (tIfS (tOr (tB (tIsN (tVar 0))) (tTest (tOp rGeI (tVar 1) (tCB rLenS (tCons (tVar 0) tNil))))) (tRet (tC (.int 0))) (tNext))
      (tRet (tBM K "str" rIndex (tC (.str (txt ABC))) (tCons (tOp rIxStr (tVar 0) (tVar 1)) tNil)))
theorem pr_figure_at {P : Program} {w : World} {K : PySem.W.Frag} {mg : Str → Option Value} {base : Heap} {a : Ad} (T : Tx K mg a) {f : Addr} {cdv : Value} {A : Around} {outer : List Env} {s : Shared} {H : Hp} {E : XK} (hr : Room 0 (A.deeper (envOfC "figure_at" (defScope s_figure_at) s.heap.objs.size f cdv))) :
    QSs (cxOf CX0 P w K mg base ["mark", "place"] "figure_at" (defScope s_figure_at) f cdv A outer s H E).nox (defBody s_figure_at) (rd_figure_at K a) := by
  exact kss_cons (ks_if (kt_w (kw_or (kt_isN (kv 0)) (kw_or1 (kt_cmp op_ge (kv 1) (ke_callB call_lenS T.n_len PyProof.Rows.Boot.«len» (ka_cons (kv 0) ka_nil)))))) (kss_one (ks_ret ke_int)) (kss_nil))
      (kss_one (ks_ret (ke_bm PySem.F.plainAttrs_str PySem.F.slot_str_index PySem.F.type_str_index mt_index (ke_gstr T.c_SMALL small_eq) (ka_cons (ke_ix ix_strL (kv 0) (kv 1)) ka_nil))))
theorem sc_whole_of : FnScope ["letters", "mark", "long", "whole", "place"] ["letters", "mark", "long"] (defScope s_whole_of) := ⟨rfl, rfl, rfl, by decide +kernel, rfl, by decide +kernel, by decide +kernel⟩
/-- slots: 0 letters, 1 mark, 2 long, 3 whole, 4 place -/
def rd_whole_of (K : PySem.W.Frag) (a : Ad) : TS :=
    tSeq (tAsg (tC (.int 0)) (gName 3))
      (tSeq (tFor (iRng1 (tCons (tVar 2) tNil)) (gName 4) (tAsg (tOp rAddI (tOp rMulI (tVar 3) (tVar 0)) (tCall spFig [] E0 (tCons (tVar 1) (tCons (tVar 4) tNil)))) (gName 3)))
      (tRet (tVar 3)))
theorem pr_whole_of {P : Program} {w : World} {K : PySem.W.Frag} {mg : Str → Option Value} {base : Heap} {a : Ad} (T : Tx K mg a) (G_figure_at : FnOk P w K mg base CX0 1 a.f_figure_at a.fd_figure_at ["mark", "place"] spFig) {f : Addr} {cdv : Value} {A : Around} {outer : List Env} {s : Shared} {H : Hp} {E : XK} (hr : Room 1 (A.deeper (envOfC "whole_of" (defScope s_whole_of) s.heap.objs.size f cdv))) :
    QSs (cxOf CX0 P w K mg base ["letters", "mark", "long", "whole", "place"] "whole_of" (defScope s_whole_of) f cdv A outer s H E).nox (defBody s_whole_of) (rd_whole_of K a) := by
  exact kss_cons (ks_set (i := 3) sc_whole_of.nd ke_int)
      (kss_cons (ks_for (ki_range1 T.n_range (ka_cons (kv 2) ka_nil)) (kg_name (i := 4) sc_whole_of.nd) (kss_one (ks_set (i := 3) sc_whole_of.nd (ke_op op_add (ke_op op_mulB (kv 3) (kv 0)) (ke_call G_figure_at (by exact hr.mono (by decide)) T.g_figure_at T.F_figure_at.kp T.b_figure_at pass0 (ka_cons (kv 1) (ka_cons (kv 4) ka_nil)))))))
      (kss_one (ks_ret (kv 3))))
theorem sc_mark_of : FnScope ["letters", "number", "long", "text", "rest", "step"] ["letters", "number", "long"] (defScope s_mark_of) := ⟨rfl, rfl, rfl, by decide +kernel, rfl, by decide +kernel, by decide +kernel⟩
/-- slots: 0 letters, 1 number, 2 long, 3 text, 4 rest, 5 step -/
def rd_mark_of (K : PySem.W.Frag) (a : Ad) : TS :=
    tSeq (tAsg (tC (.str (txt []))) (gName 3))
      (tSeq (tAsg (tVar 1) (gName 4))
      (tSeq (tFor (iRng1 (tCons (tVar 2) tNil)) (gName 5) (tSeq (tAsg (tOp rAddS (tOp rIxStr (tC (.str (txt ABC))) (tOp rModI (tVar 4) (tVar 0))) (tVar 3)) (gName 3))
      (tAsg (tOp rDivI (tVar 4) (tVar 0)) (gName 4))))
      (tRet (tBM K "str" rRstrip (tVar 3) (tCons (tC (.str (txt [97]))) tNil)))))
theorem pr_mark_of {P : Program} {w : World} {K : PySem.W.Frag} {mg : Str → Option Value} {base : Heap} {a : Ad} (T : Tx K mg a) {f : Addr} {cdv : Value} {A : Around} {outer : List Env} {s : Shared} {H : Hp} {E : XK} (hr : Room 0 (A.deeper (envOfC "mark_of" (defScope s_mark_of) s.heap.objs.size f cdv))) :
    QSs (cxOf CX0 P w K mg base ["letters", "number", "long", "text", "rest", "step"] "mark_of" (defScope s_mark_of) f cdv A outer s H E).nox (defBody s_mark_of) (rd_mark_of K a) := by
  exact kss_cons (ks_set (i := 3) sc_mark_of.nd (ke_txt (by kernel_rfl)))
      (kss_cons (ks_set (i := 4) sc_mark_of.nd (kv 1))
      (kss_cons (ks_for (ki_range1 T.n_range (ka_cons (kv 2) ka_nil)) (kg_name (i := 5) sc_mark_of.nd) (kss_cons (ks_set (i := 3) sc_mark_of.nd (ke_op op_addS (ke_ix ix_strL (ke_gstr T.c_SMALL small_eq) (ke_op op_mod (kv 4) (kv 0))) (kv 3)))
      (kss_one (ks_set (i := 4) sc_mark_of.nd (ke_op op_fdiv (kv 4) (kv 0))))))
      (kss_one (ks_ret (ke_bm PySem.F.plainAttrs_str PySem.F.slot_str_rstrip PySem.F.type_str_rstrip mt_rstrip (kv 3) (ka_cons (ke_txt (by kernel_rfl)) ka_nil))))))
theorem sc_ends_of : FnScope ["letters", "hands", "hand"] ["letters", "hands", "hand"] (defScope s_ends_of) := ⟨rfl, rfl, rfl, by decide +kernel, rfl, by decide +kernel, by decide +kernel⟩
/-- slots: 0 letters, 1 hands, 2 hand -/
def rd_ends_of (K : PySem.W.Frag) (a : Ad) : TS :=
    tRet (tBM K "str" (rJoin K) (tC (.str (txt []))) (tCons (tComp (iRng2 (tCons (tC (.int 1)) (tCons (tVar 0) tNil))) [2, 1] (tTest (tOp rEq (tOp rModI (tOp rSubI (tVar 0) (tC (.int 1))) (tVar 2)) (tVar 1))) (tOp rIxStr (tC (.str (txt ABC))) (tVar 0))) tNil))
theorem pr_ends_of {P : Program} {w : World} {K : PySem.W.Frag} {mg : Str → Option Value} {base : Heap} {a : Ad} (T : Tx K mg a) {f : Addr} {cdv : Value} {A : Around} {outer : List Env} {s : Shared} {H : Hp} {E : XK} (hr : Room 0 (A.deeper (envOfC "ends_of" (defScope s_ends_of) s.heap.objs.size f cdv))) :
    QSs (cxOf CX0 P w K mg base ["letters", "hands", "hand"] "ends_of" (defScope s_ends_of) f cdv A outer s H E).nox (defBody s_ends_of) (rd_ends_of K a) := by
  exact kss_one (ks_ret (ke_bm PySem.F.plainAttrs_str PySem.F.slot_str_join PySem.F.type_str_join mt_join (ke_txt (by kernel_rfl)) (ka_cons (ke_comp [("hand", 2), ("hands", 1)] (ki_range2 T.n_range (ka_cons ke_int (ka_cons (kv 0) ka_nil))) (fun _ _ _ _ _ => ⟨kts_one (kt_cmp op_eq (ke_op op_mod (ke_op op_sub (kv 0) ke_int) (kvc 2)) (kvc 1)), ke_ix ix_strL (ke_gstr T.c_SMALL small_eq) (kv 0)⟩)) ka_nil)))
theorem sc_ask_room : FnScope ["low", "high"] ["low", "high"] (defScope s_ask_room) := ⟨rfl, rfl, rfl, by decide +kernel, rfl, by decide +kernel, by decide +kernel⟩
/-- slots: 0 low, 1 high -/
def rd_ask_room (K : PySem.W.Frag) (a : Ad) (E : XK) : TS :=
    tIfS (tAnd (tB (tNotN (tVar 0))) (tAnd (tB (tNotN (tVar 1))) (tTest (tOp rGeS (tVar 0) (tVar 1))))) (tRaise (.ref a.c_NoRoom) E (tCons (tC (.str (txt [108, 111, 119, 32, 100, 111, 101, 115, 32, 110, 111, 116, 32, 99, 111, 109, 101, 32, 97, 104, 101, 97, 100, 32, 111, 102, 32, 104, 105, 103, 104]))) tNil)) (tNext)
theorem pr_ask_room {P : Program} {w : World} {K : PySem.W.Frag} {mg : Str → Option Value} {base : Heap} {a : Ad} (T : Tx K mg a) {f : Addr} {cdv : Value} {A : Around} {outer : List Env} {s : Shared} {H : Hp} {E : XK} (hr : Room 0 (A.deeper (envOfC "ask_room" (defScope s_ask_room) s.heap.objs.size f cdv))) :
    QSs (cxOf (CX1 P w) P w K mg base ["low", "high"] "ask_room" (defScope s_ask_room) f cdv A outer s H E) (defBody s_ask_room) (rd_ask_room K a E) := by
  exact kss_one (ks_if (kt_w (kw_and (kt_notN (kv 0)) (kw_and (kt_notN (kv 1)) (kw_and1 (kt_cmp op_geS (kv 0) (kv 1)))))) (kss_one (ks_raise PySem.F.excBase_ValueError T.x_NoRoom T.m_NoRoom (ka_cons (ke_txt (by kernel_rfl)) ka_nil) (fun _ _ _ _ _ _ _ I m q => made_def I m q))) (kss_nil))
theorem sc_high_whole_of : FnScope ["letters", "high", "long"] ["letters", "high", "long"] (defScope s_high_whole_of) := ⟨rfl, rfl, rfl, by decide +kernel, rfl, by decide +kernel, by decide +kernel⟩
/-- slots: 0 letters, 1 high, 2 long -/
def rd_high_whole_of (K : PySem.W.Frag) (a : Ad) : TS :=
    tSeq (tIfS (tB (tIsN (tVar 1))) (tRet (tCall spPower [] E0 (tCons (tVar 0) (tCons (tVar 2) tNil)))) (tNext))
      (tRet (tCall spWhole [] E0 (tCons (tVar 0) (tCons (tVar 1) (tCons (tVar 2) tNil)))))
theorem pr_high_whole_of {P : Program} {w : World} {K : PySem.W.Frag} {mg : Str → Option Value} {base : Heap} {a : Ad} (T : Tx K mg a) (G_power : FnOk P w K mg base CX0 1 a.f_power a.fd_power ["letters", "long"] spPower) (G_whole_of : FnOk P w K mg base CX0 2 a.f_whole_of a.fd_whole_of ["letters", "mark", "long"] spWhole) {f : Addr} {cdv : Value} {A : Around} {outer : List Env} {s : Shared} {H : Hp} {E : XK} (hr : Room 2 (A.deeper (envOfC "high_whole_of" (defScope s_high_whole_of) s.heap.objs.size f cdv))) :
    QSs (cxOf CX0 P w K mg base ["letters", "high", "long"] "high_whole_of" (defScope s_high_whole_of) f cdv A outer s H E).nox (defBody s_high_whole_of) (rd_high_whole_of K a) := by
  exact kss_cons (ks_if (kt_isN (kv 1)) (kss_one (ks_ret (ke_call G_power (by exact hr.mono (by decide)) T.g_power T.F_power.kp T.b_power pass0 (ka_cons (kv 0) (ka_cons (kv 2) ka_nil))))) (kss_nil))
      (kss_one (ks_ret (ke_call G_whole_of (by exact hr.mono (by decide)) T.g_whole_of T.F_whole_of.kp T.b_whole_of pass0 (ka_cons (kv 0) (ka_cons (kv 1) (ka_cons (kv 2) ka_nil))))))
theorem sc_owned_below : FnScope ["letters", "ends", "number", "lesser"] ["letters", "ends", "number"] (defScope s_owned_below) := ⟨rfl, rfl, rfl, by decide +kernel, rfl, by decide +kernel, by decide +kernel⟩
/-- slots: 0 letters, 1 ends, 2 number, 3 lesser -/
def rd_owned_below (K : PySem.W.Frag) (a : Ad) : TS :=
    tSeq (tCompSet 3 (iStr (tVar 1)) [2, 0] (tTest (tOp rLtS (tVar 0) (tOp rIxStr (tC (.str (txt ABC))) (tOp rModI (tVar 1) (tVar 2))))) (tVar 0))
      (tRet (tOp rAddI (tOp rMulI (tOp rDivI (tVar 2) (tVar 0)) (tCB rLenS (tCons (tVar 1) tNil))) (tCB (rLenL K) (tCons (tVar 3) tNil))))
theorem pr_owned_below {P : Program} {w : World} {K : PySem.W.Frag} {mg : Str → Option Value} {base : Heap} {a : Ad} (T : Tx K mg a) {f : Addr} {cdv : Value} {A : Around} {outer : List Env} {s : Shared} {H : Hp} {E : XK} (hr : Room 0 (A.deeper (envOfC "owned_below" (defScope s_owned_below) s.heap.objs.size f cdv))) :
    QSs (cxOf CX0 P w K mg base ["letters", "ends", "number", "lesser"] "owned_below" (defScope s_owned_below) f cdv A outer s H E).nox (defBody s_owned_below) (rd_owned_below K a) := by
  exact kss_cons (ks_comp (i := 3) [("number", 2), ("letters", 0)] sc_owned_below.nd (ki_str (kv 1)) (fun _ _ _ _ _ => ⟨kts_one (kt_cmp op_ltS (kv 0) (ke_ix ix_strL (ke_gstr T.c_SMALL small_eq) (ke_op op_mod (kvc 1) (kvc 2)))), kv 0⟩))
      (kss_one (ks_ret (ke_op op_add (ke_op op_mulB (ke_op op_fdiv (kvc 2) (kvc 0)) (ke_callB call_lenS T.n_len PyProof.Rows.Boot.«len» (ka_cons (kv 1) ka_nil))) (ke_callB call_len_seq T.n_len PyProof.Rows.Boot.«len» (ka_cons (kv 3) ka_nil)))))
theorem sc_owned_up_to_low : FnScope ["letters", "ends", "low_whole"] ["letters", "ends", "low_whole"] (defScope s_owned_up_to_low) := ⟨rfl, rfl, rfl, by decide +kernel, rfl, by decide +kernel, by decide +kernel⟩
/-- slots: 0 letters, 1 ends, 2 low_whole -/
def rd_owned_up_to_low (K : PySem.W.Frag) (a : Ad) : TS :=
    tRet (tCall spBelow [] E0 (tCons (tVar 0) (tCons (tVar 1) (tCons (tOp rAddI (tVar 2) (tC (.int 1))) tNil))))
theorem pr_owned_up_to_low {P : Program} {w : World} {K : PySem.W.Frag} {mg : Str → Option Value} {base : Heap} {a : Ad} (T : Tx K mg a) (G_owned_below : FnOk P w K mg base CX0 1 a.f_owned_below a.fd_owned_below ["letters", "ends", "number"] spBelow) {f : Addr} {cdv : Value} {A : Around} {outer : List Env} {s : Shared} {H : Hp} {E : XK} (hr : Room 1 (A.deeper (envOfC "owned_up_to_low" (defScope s_owned_up_to_low) s.heap.objs.size f cdv))) :
    QSs (cxOf CX0 P w K mg base ["letters", "ends", "low_whole"] "owned_up_to_low" (defScope s_owned_up_to_low) f cdv A outer s H E).nox (defBody s_owned_up_to_low) (rd_owned_up_to_low K a) := by
  exact kss_one (ks_ret (ke_call G_owned_below (by exact hr.mono (by decide)) T.g_owned_below T.F_owned_below.kp T.b_owned_below pass0 (ka_cons (kv 0) (ka_cons (kv 1) (ka_cons (ke_op op_add (kv 2) ke_int) ka_nil)))))
theorem sc_owned_ahead_of_high : FnScope ["letters", "ends", "high", "high_whole", "long", "beginnings"] ["letters", "ends", "high", "high_whole", "long", "beginnings"] (defScope s_owned_ahead_of_high) := ⟨rfl, rfl, rfl, by decide +kernel, rfl, by decide +kernel, by decide +kernel⟩
/-- slots: 0 letters, 1 ends, 2 high, 3 high_whole, 4 long, 5 beginnings -/
def rd_owned_ahead_of_high (K : PySem.W.Frag) (a : Ad) : TS :=
    tSeq (tIfS (tAnd (tB (tVar 5)) (tAnd (tB (tNotN (tVar 2))) (tTest (tOp rLtI (tVar 4) (tCB rLenS (tCons (tVar 2) tNil)))))) (tRet (tCall spBelow [] E0 (tCons (tVar 0) (tCons (tVar 1) (tCons (tOp rAddI (tVar 3) (tC (.int 1))) tNil))))) (tNext))
      (tRet (tCall spBelow [] E0 (tCons (tVar 0) (tCons (tVar 1) (tCons (tVar 3) tNil)))))
theorem pr_owned_ahead_of_high {P : Program} {w : World} {K : PySem.W.Frag} {mg : Str → Option Value} {base : Heap} {a : Ad} (T : Tx K mg a) (G_owned_below : FnOk P w K mg base CX0 1 a.f_owned_below a.fd_owned_below ["letters", "ends", "number"] spBelow) {f : Addr} {cdv : Value} {A : Around} {outer : List Env} {s : Shared} {H : Hp} {E : XK} (hr : Room 1 (A.deeper (envOfC "owned_ahead_of_high" (defScope s_owned_ahead_of_high) s.heap.objs.size f cdv))) :
    QSs (cxOf CX0 P w K mg base ["letters", "ends", "high", "high_whole", "long", "beginnings"] "owned_ahead_of_high" (defScope s_owned_ahead_of_high) f cdv A outer s H E).nox (defBody s_owned_ahead_of_high) (rd_owned_ahead_of_high K a) := by
  exact kss_cons (ks_if (kt_w (kw_and (kt_val (kv 5)) (kw_and (kt_notN (kv 2)) (kw_and1 (kt_cmp op_lt (kv 4) (ke_callB call_lenS T.n_len PyProof.Rows.Boot.«len» (ka_cons (kv 2) ka_nil))))))) (kss_one (ks_ret (ke_call G_owned_below (by exact hr.mono (by decide)) T.g_owned_below T.F_owned_below.kp T.b_owned_below pass0 (ka_cons (kv 0) (ka_cons (kv 1) (ka_cons (ke_op op_add (kv 3) ke_int) ka_nil)))))) (kss_nil))
      (kss_one (ks_ret (ke_call G_owned_below (by exact hr.mono (by decide)) T.g_owned_below T.F_owned_below.kp T.b_owned_below pass0 (ka_cons (kv 0) (ka_cons (kv 1) (ka_cons (kv 3) ka_nil))))))
theorem sc_counted_at : FnScope ["letters", "ends", "low", "high", "long", "beginnings", "low_whole", "high_whole", "ahead"] ["letters", "ends", "low", "high", "long", "beginnings"] (defScope s_counted_at) := ⟨rfl, rfl, rfl, by decide +kernel, rfl, by decide +kernel, by decide +kernel⟩
/-- slots: 0 letters, 1 ends, 2 low, 3 high, 4 long, 5 beginnings, 6 low_whole, 7 high_whole, 8 ahead -/
def rd_counted_at (K : PySem.W.Frag) (a : Ad) : TS :=
    tSeq (tAsg (tCall spWhole [] E0 (tCons (tVar 0) (tCons (tVar 2) (tCons (tVar 4) tNil)))) (gName 6))
      (tSeq (tAsg (tCall spHigh [] E0 (tCons (tVar 0) (tCons (tVar 3) (tCons (tVar 4) tNil)))) (gName 7))
      (tSeq (tAsg (tCall spAhead [] E0 (tCons (tVar 0) (tCons (tVar 1) (tCons (tVar 3) (tCons (tVar 7) (tCons (tVar 4) (tCons (tVar 5) tNil))))))) (gName 8))
      (tRet (tOp rSubI (tVar 8) (tCall spUpLow [] E0 (tCons (tVar 0) (tCons (tVar 1) (tCons (tVar 6) tNil))))))))
theorem pr_counted_at {P : Program} {w : World} {K : PySem.W.Frag} {mg : Str → Option Value} {base : Heap} {a : Ad} (T : Tx K mg a) (G_whole_of : FnOk P w K mg base CX0 2 a.f_whole_of a.fd_whole_of ["letters", "mark", "long"] spWhole) (G_high_whole_of : FnOk P w K mg base CX0 3 a.f_high_whole_of a.fd_high_whole_of ["letters", "high", "long"] spHigh) (G_owned_ahead_of_high : FnOk P w K mg base CX0 2 a.f_owned_ahead_of_high a.fd_owned_ahead_of_high ["letters", "ends", "high", "high_whole", "long", "beginnings"] spAhead) (G_owned_up_to_low : FnOk P w K mg base CX0 2 a.f_owned_up_to_low a.fd_owned_up_to_low ["letters", "ends", "low_whole"] spUpLow) {f : Addr} {cdv : Value} {A : Around} {outer : List Env} {s : Shared} {H : Hp} {E : XK} (hr : Room 3 (A.deeper (envOfC "counted_at" (defScope s_counted_at) s.heap.objs.size f cdv))) :
    QSs (cxOf CX0 P w K mg base ["letters", "ends", "low", "high", "long", "beginnings", "low_whole", "high_whole", "ahead"] "counted_at" (defScope s_counted_at) f cdv A outer s H E).nox (defBody s_counted_at) (rd_counted_at K a) := by
  exact kss_cons (ks_set (i := 6) sc_counted_at.nd (ke_call G_whole_of (by exact hr.mono (by decide)) T.g_whole_of T.F_whole_of.kp T.b_whole_of pass0 (ka_cons (kv 0) (ka_cons (kv 2) (ka_cons (kv 4) ka_nil)))))
      (kss_cons (ks_set (i := 7) sc_counted_at.nd (ke_call G_high_whole_of (by exact hr.mono (by decide)) T.g_high_whole_of T.F_high_whole_of.kp T.b_high_whole_of pass0 (ka_cons (kv 0) (ka_cons (kv 3) (ka_cons (kv 4) ka_nil)))))
      (kss_cons (ks_set (i := 8) sc_counted_at.nd (ke_call G_owned_ahead_of_high (by exact hr.mono (by decide)) T.g_owned_ahead_of_high T.F_owned_ahead_of_high.kp T.b_owned_ahead_of_high pass0 (ka_cons (kv 0) (ka_cons (kv 1) (ka_cons (kv 3) (ka_cons (kv 7) (ka_cons (kv 4) (ka_cons (kv 5) ka_nil))))))))
      (kss_one (ks_ret (ke_op op_sub (kv 8) (ke_call G_owned_up_to_low (by exact hr.mono (by decide)) T.g_owned_up_to_low T.F_owned_up_to_low.kp T.b_owned_up_to_low pass0 (ka_cons (kv 0) (ka_cons (kv 1) (ka_cons (kv 6) ka_nil)))))))))
theorem sc_room_at : FnScope ["letters", "hands", "hand", "low", "high", "long"] ["letters", "hands", "hand", "low", "high", "long"] (defScope s_room_at) := ⟨rfl, rfl, rfl, by decide +kernel, rfl, by decide +kernel, by decide +kernel⟩
/-- slots: 0 letters, 1 hands, 2 hand, 3 low, 4 high, 5 long -/
def rd_room_at (K : PySem.W.Frag) (a : Ad) (E : XK) : TS :=
    tSeq (tDrop (tCall (spAskRoom a.c_NoRoom) [] E (tCons (tVar 3) (tCons (tVar 4) tNil))))
      (tRet (tCall spCounted [] E0 (tCons (tVar 0) (tCons (tCall spEnds [] E0 (tCons (tVar 0) (tCons (tVar 1) (tCons (tVar 2) tNil)))) (tCons (tVar 3) (tCons (tVar 4) (tCons (tVar 5) (tCons (tC (.bl true)) tNil))))))))
theorem pr_room_at {P : Program} {w : World} {K : PySem.W.Frag} {mg : Str → Option Value} {base : Heap} {a : Ad} (T : Tx K mg a) (G_ask_room : FnOk P w K mg base (CX1 P w) 1 a.f_ask_room a.fd_ask_room ["low", "high"] (spAskRoom a.c_NoRoom)) (G_ends_of : FnOk P w K mg base CX0 1 a.f_ends_of a.fd_ends_of ["letters", "hands", "hand"] spEnds) (G_counted_at : FnOk P w K mg base CX0 4 a.f_counted_at a.fd_counted_at ["letters", "ends", "low", "high", "long", "beginnings"] spCounted) {f : Addr} {cdv : Value} {A : Around} {outer : List Env} {s : Shared} {H : Hp} {E : XK} (hr : Room 4 (A.deeper (envOfC "room_at" (defScope s_room_at) s.heap.objs.size f cdv))) :
    QSs (cxOf (CX1 P w) P w K mg base ["letters", "hands", "hand", "low", "high", "long"] "room_at" (defScope s_room_at) f cdv A outer s H E) (defBody s_room_at) (rd_room_at K a E) := by
  exact kss_cons (ks_expr (ke_call G_ask_room (by exact hr.mono (by decide)) T.g_ask_room T.F_ask_room.kp T.b_ask_room pass_def (ka_cons (kv 3) (ka_cons (kv 4) ka_nil))))
      (kss_one (ks_nox (ks_ret (ke_call G_counted_at (by exact hr.mono (by decide)) T.g_counted_at T.F_counted_at.kp T.b_counted_at pass0 (ka_cons (kv 0) (ka_cons (ke_call G_ends_of (by exact hr.mono (by decide)) T.g_ends_of T.F_ends_of.kp T.b_ends_of pass0 (ka_cons (kv 0) (ka_cons (kv 1) (ka_cons (kv 2) ka_nil)))) (ka_cons (kv 3) (ka_cons (kv 4) (ka_cons (kv 5) (ka_cons ke_bl ka_nil))))))))))
theorem sc_nth_mark : FnScope ["letters", "hands", "hand", "low", "high", "long", "number", "ends", "low_whole", "place", "last"] ["letters", "hands", "hand", "low", "high", "long", "number"] (defScope s_nth_mark) := ⟨rfl, rfl, rfl, by decide +kernel, rfl, by decide +kernel, by decide +kernel⟩
/-- slots: 0 letters, 1 hands, 2 hand, 3 low, 4 high, 5 long, 6 number, 7 ends, 8 low_whole, 9 place, 10 last -/
def rd_nth_mark (K : PySem.W.Frag) (a : Ad) (E : XK) : TS :=
    tSeq (tDrop (tCall (spAskRoom a.c_NoRoom) [] E (tCons (tVar 3) (tCons (tVar 4) tNil))))
      (tSeq (tAsg (tCall spEnds [] E0 (tCons (tVar 0) (tCons (tVar 1) (tCons (tVar 2) tNil)))) (gName 7))
      (tSeq (tAsg (tCall spWhole [] E0 (tCons (tVar 0) (tCons (tVar 3) (tCons (tVar 5) tNil)))) (gName 8))
      (tSeq (tAsg (tOp rAddI (tCall spUpLow [] E0 (tCons (tVar 0) (tCons (tVar 7) (tCons (tVar 8) tNil)))) (tVar 6)) (gName 9))
      (tSeq (tAsg (tBM K "str" rIndex (tC (.str (txt ABC))) (tCons (tOp rIxStr (tVar 7) (tOp rModI (tVar 9) (tCB rLenS (tCons (tVar 7) tNil)))) tNil)) (gName 10))
      (tRet (tCall spMarkOf [] E0 (tCons (tVar 0) (tCons (tOp rAddI (tOp rMulI (tOp rDivI (tVar 9) (tCB rLenS (tCons (tVar 7) tNil))) (tVar 0)) (tVar 10)) (tCons (tVar 5) tNil)))))))))
theorem pr_nth_mark {P : Program} {w : World} {K : PySem.W.Frag} {mg : Str → Option Value} {base : Heap} {a : Ad} (T : Tx K mg a) (G_ask_room : FnOk P w K mg base (CX1 P w) 1 a.f_ask_room a.fd_ask_room ["low", "high"] (spAskRoom a.c_NoRoom)) (G_ends_of : FnOk P w K mg base CX0 1 a.f_ends_of a.fd_ends_of ["letters", "hands", "hand"] spEnds) (G_whole_of : FnOk P w K mg base CX0 2 a.f_whole_of a.fd_whole_of ["letters", "mark", "long"] spWhole) (G_owned_up_to_low : FnOk P w K mg base CX0 2 a.f_owned_up_to_low a.fd_owned_up_to_low ["letters", "ends", "low_whole"] spUpLow) (G_mark_of : FnOk P w K mg base CX0 1 a.f_mark_of a.fd_mark_of ["letters", "number", "long"] spMarkOf) {f : Addr} {cdv : Value} {A : Around} {outer : List Env} {s : Shared} {H : Hp} {E : XK} (hr : Room 2 (A.deeper (envOfC "nth_mark" (defScope s_nth_mark) s.heap.objs.size f cdv))) :
    QSs (cxOf (CX1 P w) P w K mg base ["letters", "hands", "hand", "low", "high", "long", "number", "ends", "low_whole", "place", "last"] "nth_mark" (defScope s_nth_mark) f cdv A outer s H E) (defBody s_nth_mark) (rd_nth_mark K a E) := by
  exact kss_cons (ks_expr (ke_call G_ask_room (by exact hr.mono (by decide)) T.g_ask_room T.F_ask_room.kp T.b_ask_room pass_def (ka_cons (kv 3) (ka_cons (kv 4) ka_nil))))
      (kss_cons (ks_nox (ks_set (i := 7) sc_nth_mark.nd (ke_call G_ends_of (by exact hr.mono (by decide)) T.g_ends_of T.F_ends_of.kp T.b_ends_of pass0 (ka_cons (kv 0) (ka_cons (kv 1) (ka_cons (kv 2) ka_nil))))))
      (kss_cons (ks_nox (ks_set (i := 8) sc_nth_mark.nd (ke_call G_whole_of (by exact hr.mono (by decide)) T.g_whole_of T.F_whole_of.kp T.b_whole_of pass0 (ka_cons (kv 0) (ka_cons (kv 3) (ka_cons (kv 5) ka_nil))))))
      (kss_cons (ks_nox (ks_set (i := 9) sc_nth_mark.nd (ke_op op_add (ke_call G_owned_up_to_low (by exact hr.mono (by decide)) T.g_owned_up_to_low T.F_owned_up_to_low.kp T.b_owned_up_to_low pass0 (ka_cons (kv 0) (ka_cons (kv 7) (ka_cons (kv 8) ka_nil)))) (kv 6))))
      (kss_cons (ks_nox (ks_set (i := 10) sc_nth_mark.nd (ke_bm PySem.F.plainAttrs_str PySem.F.slot_str_index PySem.F.type_str_index mt_index (ke_gstr T.c_SMALL small_eq) (ka_cons (ke_ix ix_strL (kv 7) (ke_op op_mod (kv 9) (ke_callB call_lenS T.n_len PyProof.Rows.Boot.«len» (ka_cons (kv 7) ka_nil)))) ka_nil))))
      (kss_one (ks_nox (ks_ret (ke_call G_mark_of (by exact hr.mono (by decide)) T.g_mark_of T.F_mark_of.kp T.b_mark_of pass0 (ka_cons (kv 0) (ka_cons (ke_op op_add (ke_op op_mulB (ke_op op_fdiv (kv 9) (ke_callB call_lenS T.n_len PyProof.Rows.Boot.«len» (ka_cons (kv 7) ka_nil))) (kv 0)) (kv 10)) (ka_cons (kv 5) ka_nil)))))))))))
theorem sc_least_counted : FnScope ["letters", "ends", "low", "high", "many", "beginnings", "long", "room", "low_whole", "high_whole", "ahead"] ["letters", "ends", "low", "high", "many", "beginnings"] (defScope s_least_counted) := ⟨rfl, rfl, rfl, by decide +kernel, rfl, by decide +kernel, by decide +kernel⟩
/-- slots: 0 letters, 1 ends, 2 low, 3 high, 4 many, 5 beginnings, 6 long, 7 room, 8 low_whole, 9 high_whole, 10 ahead -/
def rd_least_counted (K : PySem.W.Frag) (a : Ad) : TS :=
    tSeq (tAsg (tC (.int 0)) (gName 6))
      (tSeq (tAsg (tC (.int 0)) (gName 7))
      (tSeq (tAsg (tC (.int 0)) (gName 8))
      (tSeq (tAsg (tCall spHigh [] E0 (tCons (tVar 0) (tCons (tVar 3) (tCons (tC (.int 0)) tNil)))) (gName 9))
      (tSeq (tWhile (tTest (tOp rLtI (tVar 7) (tVar 4))) (tSeq (tAsg (tOp rAddI (tOp rMulI (tVar 8) (tVar 0)) (tCall spFig [] E0 (tCons (tVar 2) (tCons (tVar 6) tNil)))) (gName 8))
      (tSeq (tAsg (tOp rAddI (tOp rMulI (tVar 9) (tVar 0)) (tCall spFig [] E0 (tCons (tVar 3) (tCons (tVar 6) tNil)))) (gName 9))
      (tSeq (tAsg (tOp rAddI (tVar 6) (tC (.int 1))) (gName 6))
      (tSeq (tAsg (tCall spAhead [] E0 (tCons (tVar 0) (tCons (tVar 1) (tCons (tVar 3) (tCons (tVar 9) (tCons (tVar 6) (tCons (tVar 5) tNil))))))) (gName 10))
      (tAsg (tOp rSubI (tVar 10) (tCall spUpLow [] E0 (tCons (tVar 0) (tCons (tVar 1) (tCons (tVar 8) tNil))))) (gName 7)))))))
      (tRet (tVar 6))))))
theorem pr_least_counted {P : Program} {w : World} {K : PySem.W.Frag} {mg : Str → Option Value} {base : Heap} {a : Ad} (T : Tx K mg a) (G_high_whole_of : FnOk P w K mg base CX0 3 a.f_high_whole_of a.fd_high_whole_of ["letters", "high", "long"] spHigh) (G_figure_at : FnOk P w K mg base CX0 1 a.f_figure_at a.fd_figure_at ["mark", "place"] spFig) (G_owned_ahead_of_high : FnOk P w K mg base CX0 2 a.f_owned_ahead_of_high a.fd_owned_ahead_of_high ["letters", "ends", "high", "high_whole", "long", "beginnings"] spAhead) (G_owned_up_to_low : FnOk P w K mg base CX0 2 a.f_owned_up_to_low a.fd_owned_up_to_low ["letters", "ends", "low_whole"] spUpLow) {f : Addr} {cdv : Value} {A : Around} {outer : List Env} {s : Shared} {H : Hp} {E : XK} (hr : Room 3 (A.deeper (envOfC "least_counted" (defScope s_least_counted) s.heap.objs.size f cdv))) :
    QSs (cxOf CX0 P w K mg base ["letters", "ends", "low", "high", "many", "beginnings", "long", "room", "low_whole", "high_whole", "ahead"] "least_counted" (defScope s_least_counted) f cdv A outer s H E).nox (defBody s_least_counted) (rd_least_counted K a) := by
  exact kss_cons (ks_set (i := 6) sc_least_counted.nd ke_int)
      (kss_cons (ks_set (i := 7) sc_least_counted.nd ke_int)
      (kss_cons (ks_set (i := 8) sc_least_counted.nd ke_int)
      (kss_cons (ks_set (i := 9) sc_least_counted.nd (ke_call G_high_whole_of (by exact hr.mono (by decide)) T.g_high_whole_of T.F_high_whole_of.kp T.b_high_whole_of pass0 (ka_cons (kv 0) (ka_cons (kv 3) (ka_cons ke_int ka_nil)))))
      (kss_cons (ks_while (kt_cmp op_lt (kv 7) (kv 4)) (kss_cons (ks_set (i := 8) sc_least_counted.nd (ke_op op_add (ke_op op_mulB (kv 8) (kv 0)) (ke_call G_figure_at (by exact hr.mono (by decide)) T.g_figure_at T.F_figure_at.kp T.b_figure_at pass0 (ka_cons (kv 2) (ka_cons (kv 6) ka_nil)))))
      (kss_cons (ks_set (i := 9) sc_least_counted.nd (ke_op op_add (ke_op op_mulB (kv 9) (kv 0)) (ke_call G_figure_at (by exact hr.mono (by decide)) T.g_figure_at T.F_figure_at.kp T.b_figure_at pass0 (ka_cons (kv 3) (ka_cons (kv 6) ka_nil)))))
      (kss_cons (ks_set (i := 6) sc_least_counted.nd (ke_op op_add (kv 6) ke_int))
      (kss_cons (ks_set (i := 10) sc_least_counted.nd (ke_call G_owned_ahead_of_high (by exact hr.mono (by decide)) T.g_owned_ahead_of_high T.F_owned_ahead_of_high.kp T.b_owned_ahead_of_high pass0 (ka_cons (kv 0) (ka_cons (kv 1) (ka_cons (kv 3) (ka_cons (kv 9) (ka_cons (kv 6) (ka_cons (kv 5) ka_nil))))))))
      (kss_one (ks_set (i := 7) sc_least_counted.nd (ke_op op_sub (kv 10) (ke_call G_owned_up_to_low (by exact hr.mono (by decide)) T.g_owned_up_to_low T.F_owned_up_to_low.kp T.b_owned_up_to_low pass0 (ka_cons (kv 0) (ka_cons (kv 1) (ka_cons (kv 8) ka_nil))))))))))))
      (kss_one (ks_ret (kv 6)))))))
theorem sc_least_long : FnScope ["letters", "hands", "hand", "low", "high", "many"] ["letters", "hands", "hand", "low", "high", "many"] (defScope s_least_long) := ⟨rfl, rfl, rfl, by decide +kernel, rfl, by decide +kernel, by decide +kernel⟩
/-- slots: 0 letters, 1 hands, 2 hand, 3 low, 4 high, 5 many -/
def rd_least_long (K : PySem.W.Frag) (a : Ad) (E : XK) : TS :=
    tSeq (tDrop (tCall (spAskRoom a.c_NoRoom) [] E (tCons (tVar 3) (tCons (tVar 4) tNil))))
      (tRet (tCall spLeastC [] E0 (tCons (tVar 0) (tCons (tCall spEnds [] E0 (tCons (tVar 0) (tCons (tVar 1) (tCons (tVar 2) tNil)))) (tCons (tVar 3) (tCons (tVar 4) (tCons (tVar 5) (tCons (tC (.bl true)) tNil))))))))
theorem pr_least_long {P : Program} {w : World} {K : PySem.W.Frag} {mg : Str → Option Value} {base : Heap} {a : Ad} (T : Tx K mg a) (G_ask_room : FnOk P w K mg base (CX1 P w) 1 a.f_ask_room a.fd_ask_room ["low", "high"] (spAskRoom a.c_NoRoom)) (G_ends_of : FnOk P w K mg base CX0 1 a.f_ends_of a.fd_ends_of ["letters", "hands", "hand"] spEnds) (G_least_counted : FnOk P w K mg base CX0 4 a.f_least_counted a.fd_least_counted ["letters", "ends", "low", "high", "many", "beginnings"] spLeastC) {f : Addr} {cdv : Value} {A : Around} {outer : List Env} {s : Shared} {H : Hp} {E : XK} (hr : Room 4 (A.deeper (envOfC "least_long" (defScope s_least_long) s.heap.objs.size f cdv))) :
    QSs (cxOf (CX1 P w) P w K mg base ["letters", "hands", "hand", "low", "high", "many"] "least_long" (defScope s_least_long) f cdv A outer s H E) (defBody s_least_long) (rd_least_long K a E) := by
  exact kss_cons (ks_expr (ke_call G_ask_room (by exact hr.mono (by decide)) T.g_ask_room T.F_ask_room.kp T.b_ask_room pass_def (ka_cons (kv 3) (ka_cons (kv 4) ka_nil))))
      (kss_one (ks_nox (ks_ret (ke_call G_least_counted (by exact hr.mono (by decide)) T.g_least_counted T.F_least_counted.kp T.b_least_counted pass0 (ka_cons (kv 0) (ka_cons (ke_call G_ends_of (by exact hr.mono (by decide)) T.g_ends_of T.F_ends_of.kp T.b_ends_of pass0 (ka_cons (kv 0) (ka_cons (kv 1) (ka_cons (kv 2) ka_nil)))) (ka_cons (kv 3) (ka_cons (kv 4) (ka_cons (kv 5) (ka_cons ke_bl ka_nil))))))))))
theorem sc_told_number : FnScope ["low", "high", "many"] ["low", "high", "many"] (defScope s_told_number) := ⟨rfl, rfl, rfl, by decide +kernel, rfl, by decide +kernel, by decide +kernel⟩
/-- slots: 0 low, 1 high, 2 many -/
def rd_told_number (K : PySem.W.Frag) (a : Ad) : TS :=
    tSeq (tIfS (tAnd (tB (tIsN (tVar 1))) (tB (tNotN (tVar 0)))) (tRet (tC (.int 0))) (tNext))
      (tSeq (tIfS (tAnd (tB (tIsN (tVar 0))) (tB (tNotN (tVar 1)))) (tRet (tOp rSubI (tVar 2) (tC (.int 1)))) (tNext))
      (tRet (tOp rDivI (tOp rSubI (tVar 2) (tC (.int 1))) (tC (.int 2)))))
theorem pr_told_number {P : Program} {w : World} {K : PySem.W.Frag} {mg : Str → Option Value} {base : Heap} {a : Ad} (T : Tx K mg a) {f : Addr} {cdv : Value} {A : Around} {outer : List Env} {s : Shared} {H : Hp} {E : XK} (hr : Room 0 (A.deeper (envOfC "told_number" (defScope s_told_number) s.heap.objs.size f cdv))) :
    QSs (cxOf CX0 P w K mg base ["low", "high", "many"] "told_number" (defScope s_told_number) f cdv A outer s H E).nox (defBody s_told_number) (rd_told_number K a) := by
  exact kss_cons (ks_if (kt_w (kw_and (kt_isN (kv 1)) (kw_and1 (kt_notN (kv 0))))) (kss_one (ks_ret ke_int)) (kss_nil))
      (kss_cons (ks_if (kt_w (kw_and (kt_isN (kv 0)) (kw_and1 (kt_notN (kv 1))))) (kss_one (ks_ret (ke_op op_sub (kv 2) ke_int))) (kss_nil))
      (kss_one (ks_ret (ke_op op_fdiv (ke_op op_sub (kv 2) ke_int) ke_int))))
theorem sc_mark_between : FnScope ["letters", "hands", "hand", "low", "high", "long", "many"] ["letters", "hands", "hand", "low", "high"] (defScope s_mark_between) := ⟨rfl, rfl, rfl, by decide +kernel, rfl, by decide +kernel, by decide +kernel⟩
/-- slots: 0 letters, 1 hands, 2 hand, 3 low, 4 high, 5 long, 6 many -/
def rd_mark_between (K : PySem.W.Frag) (a : Ad) (E : XK) : TS :=
    tSeq (tAsg (tCall (spLeast a.c_NoRoom) [] E (tCons (tVar 0) (tCons (tVar 1) (tCons (tVar 2) (tCons (tVar 3) (tCons (tVar 4) (tCons (tC (.int 1)) tNil))))))) (gName 5))
      (tSeq (tAsg (tCall (spRoom a.c_NoRoom) [] E (tCons (tVar 0) (tCons (tVar 1) (tCons (tVar 2) (tCons (tVar 3) (tCons (tVar 4) (tCons (tVar 5) tNil))))))) (gName 6))
      (tRet (tCall (spNth a.c_NoRoom) [] E (tCons (tVar 0) (tCons (tVar 1) (tCons (tVar 2) (tCons (tVar 3) (tCons (tVar 4) (tCons (tVar 5) (tCons (tCall spTold [] E0 (tCons (tVar 3) (tCons (tVar 4) (tCons (tVar 6) tNil)))) tNil))))))))))
theorem pr_mark_between {P : Program} {w : World} {K : PySem.W.Frag} {mg : Str → Option Value} {base : Heap} {a : Ad} (T : Tx K mg a) (G_least_long : FnOk P w K mg base (CX1 P w) 5 a.f_least_long a.fd_least_long ["letters", "hands", "hand", "low", "high", "many"] (spLeast a.c_NoRoom)) (G_room_at : FnOk P w K mg base (CX1 P w) 5 a.f_room_at a.fd_room_at ["letters", "hands", "hand", "low", "high", "long"] (spRoom a.c_NoRoom)) (G_told_number : FnOk P w K mg base CX0 1 a.f_told_number a.fd_told_number ["low", "high", "many"] spTold) (G_nth_mark : FnOk P w K mg base (CX1 P w) 3 a.f_nth_mark a.fd_nth_mark ["letters", "hands", "hand", "low", "high", "long", "number"] (spNth a.c_NoRoom)) {f : Addr} {cdv : Value} {A : Around} {outer : List Env} {s : Shared} {H : Hp} {E : XK} (hr : Room 5 (A.deeper (envOfC "mark_between" (defScope s_mark_between) s.heap.objs.size f cdv))) :
    QSs (cxOf (CX1 P w) P w K mg base ["letters", "hands", "hand", "low", "high", "long", "many"] "mark_between" (defScope s_mark_between) f cdv A outer s H E) (defBody s_mark_between) (rd_mark_between K a E) := by
  exact kss_cons (ks_set (i := 5) sc_mark_between.nd (ke_call G_least_long (by exact hr.mono (by decide)) T.g_least_long T.F_least_long.kp T.b_least_long pass_def (ka_cons (kv 0) (ka_cons (kv 1) (ka_cons (kv 2) (ka_cons (kv 3) (ka_cons (kv 4) (ka_cons ke_int ka_nil))))))))
      (kss_cons (ks_set (i := 6) sc_mark_between.nd (ke_call G_room_at (by exact hr.mono (by decide)) T.g_room_at T.F_room_at.kp T.b_room_at pass_def (ka_cons (kv 0) (ka_cons (kv 1) (ka_cons (kv 2) (ka_cons (kv 3) (ka_cons (kv 4) (ka_cons (kv 5) ka_nil))))))))
      (kss_one (ks_ret (ke_call G_nth_mark (by exact hr.mono (by decide)) T.g_nth_mark T.F_nth_mark.kp T.b_nth_mark pass_def (ka_cons (kv 0) (ka_cons (kv 1) (ka_cons (kv 2) (ka_cons (kv 3) (ka_cons (kv 4) (ka_cons (kv 5) (ka_cons (ke_call G_told_number (by exact hr.mono (by decide)) T.g_told_number T.F_told_number.kp T.b_told_number pass0 (ka_cons (kv 3) (ka_cons (kv 4) (ka_cons (kv 6) ka_nil)))) ka_nil)))))))))))
theorem sc_spread : FnScope ["many", "whole"] ["many", "whole"] (defScope s_spread) := ⟨rfl, rfl, rfl, by decide +kernel, rfl, by decide +kernel, by decide +kernel⟩
/-- slots: 0 many, 1 whole -/
def rd_spread (K : PySem.W.Frag) (a : Ad) : TS :=
    tRet (tComp (iRng1 (tCons (tVar 0) tNil)) [1, 0] tYes (tOp rDivI (tOp rMulI (tOp rAddI (tVar 0) (tC (.int 1))) (tVar 1)) (tOp rAddI (tVar 2) (tC (.int 1)))))
theorem pr_spread {P : Program} {w : World} {K : PySem.W.Frag} {mg : Str → Option Value} {base : Heap} {a : Ad} (T : Tx K mg a) {f : Addr} {cdv : Value} {A : Around} {outer : List Env} {s : Shared} {H : Hp} {E : XK} (hr : Room 0 (A.deeper (envOfC "spread" (defScope s_spread) s.heap.objs.size f cdv))) :
    QSs (cxOf CX0 P w K mg base ["many", "whole"] "spread" (defScope s_spread) f cdv A outer s H E).nox (defBody s_spread) (rd_spread K a) := by
  exact kss_one (ks_ret (ke_comp [("whole", 1), ("many", 0)] (ki_range1 T.n_range (ka_cons (kvc 0) ka_nil)) (fun _ _ _ _ _ => ⟨kts_nil, ke_op op_fdiv (ke_op op_mulB (ke_op op_add (kv 0) ke_int) (kvc 1)) (ke_op op_add (kvc 2) ke_int)⟩)))
theorem sc_run_between : FnScope ["letters", "hands", "hand", "low", "high", "many", "long", "room", "numbers"] ["letters", "hands", "hand", "low", "high", "many"] (defScope s_run_between) := ⟨rfl, rfl, rfl, by decide +kernel, rfl, by decide +kernel, by decide +kernel⟩
/-- slots: 0 letters, 1 hands, 2 hand, 3 low, 4 high, 5 many, 6 long, 7 room, 8 numbers -/
def rd_run_between (K : PySem.W.Frag) (a : Ad) (E : XK) : TS :=
    tSeq (tAsg (tCall (spLeast a.c_NoRoom) [] E (tCons (tVar 0) (tCons (tVar 1) (tCons (tVar 2) (tCons (tVar 3) (tCons (tVar 4) (tCons (tVar 5) tNil))))))) (gName 6))
      (tSeq (tAsg (tCall (spRoom a.c_NoRoom) [] E (tCons (tVar 0) (tCons (tVar 1) (tCons (tVar 2) (tCons (tVar 3) (tCons (tVar 4) (tCons (tVar 6) tNil))))))) (gName 7))
      (tSeq (tAsg (tCall spSpread [] E0 (tCons (tVar 5) (tCons (tOp rAddI (tVar 7) (tC (.int 1))) tNil))) (gName 8))
      (tRet (tComp (iList K (tVar 8)) [0, 1, 2, 3, 4, 6] tYes (tCall (spNth a.c_NoRoom) [] E0 (tCons (tVar 1) (tCons (tVar 2) (tCons (tVar 3) (tCons (tVar 4) (tCons (tVar 5) (tCons (tVar 6) (tCons (tOp rSubI (tVar 0) (tC (.int 1))) tNil))))))))))))
theorem pr_run_between {P : Program} {w : World} {K : PySem.W.Frag} {mg : Str → Option Value} {base : Heap} {a : Ad} (T : Tx K mg a) (G_least_long : FnOk P w K mg base (CX1 P w) 5 a.f_least_long a.fd_least_long ["letters", "hands", "hand", "low", "high", "many"] (spLeast a.c_NoRoom)) (G_room_at : FnOk P w K mg base (CX1 P w) 5 a.f_room_at a.fd_room_at ["letters", "hands", "hand", "low", "high", "long"] (spRoom a.c_NoRoom)) (G_spread : FnOk P w K mg base CX0 1 a.f_spread a.fd_spread ["many", "whole"] spSpread) (G_nth_mark : FnOk P w K mg base (CX1 P w) 3 a.f_nth_mark a.fd_nth_mark ["letters", "hands", "hand", "low", "high", "long", "number"] (spNth a.c_NoRoom)) {f : Addr} {cdv : Value} {A : Around} {outer : List Env} {s : Shared} {H : Hp} {E : XK} (hr : Room 5 (A.deeper (envOfC "run_between" (defScope s_run_between) s.heap.objs.size f cdv))) :
    QSs (cxOf (CX1 P w) P w K mg base ["letters", "hands", "hand", "low", "high", "many", "long", "room", "numbers"] "run_between" (defScope s_run_between) f cdv A outer s H E) (defBody s_run_between) (rd_run_between K a E) := by
  exact kss_cons (ks_setc (i := 6) sc_run_between.nd (ke_call G_least_long (by exact hr.mono (by decide)) T.g_least_long T.F_least_long.kp T.b_least_long pass_def (ka_cons (kvc 0) (ka_cons (kvc 1) (ka_cons (kvc 2) (ka_cons (kvc 3) (ka_cons (kvc 4) (ka_cons (kv 5) ka_nil))))))))
      (kss_cons (ks_set (i := 7) sc_run_between.nd (ke_call G_room_at (by exact hr.mono (by decide)) T.g_room_at T.F_room_at.kp T.b_room_at pass_def (ka_cons (kvc 0) (ka_cons (kvc 1) (ka_cons (kvc 2) (ka_cons (kvc 3) (ka_cons (kvc 4) (ka_cons (kvc 6) ka_nil))))))))
      (kss_cons (ks_nox (ks_set (i := 8) sc_run_between.nd (ke_call G_spread (by exact hr.mono (by decide)) T.g_spread T.F_spread.kp T.b_spread pass0 (ka_cons (kv 5) (ka_cons (ke_op op_add (kv 7) ke_int) ka_nil)))))
      (kss_one (ks_nox (ks_ret (ke_comp [("letters", 0), ("hands", 1), ("hand", 2), ("low", 3), ("high", 4), ("long", 6)] (ki_list (kv 8)) (fun _ _ _ _ _ => ⟨kts_nil, ke_call G_nth_mark (by exact hr.mono (by decide)) T.g_nth_mark T.F_nth_mark.kp T.b_nth_mark pass1 (ka_cons (kvc 1) (ka_cons (kvc 2) (ka_cons (kvc 3) (ka_cons (kvc 4) (ka_cons (kvc 5) (ka_cons (kvc 6) (ka_cons (ke_op op_sub (kv 0) ke_int) ka_nil)))))))⟩)))))))
theorem sc_draw : FnScope ["_law_script", "_law_k", "_law_many_here", "_law_cell", "_law_seed"] ["_law_script", "_law_k", "_law_many_here"] (defScope s_draw) := ⟨rfl, rfl, rfl, by decide +kernel, rfl, by decide +kernel, by decide +kernel⟩
/-- slots: 0 script, 1 k, 2 many_here, 3 cell, 4 seed -/
def rd_draw (K : PySem.W.Frag) (a : Ad) : TS :=
    tSeq (tAsg (tIf (tTest (tOp rGtI (tCB (rLenL K) (tCons (tVar 0) tNil)) (tC (.int 0)))) (tOp (rIxL K) (tVar 0) (tOp rModI (tVar 1) (tCB (rLenL K) (tCons (tVar 0) tNil)))) (tC (.int 0))) (gName 3))
      (tSeq (tIfS (tAnd (tTest (tOp rGtI (tCB (rLenL K) (tCons (tVar 0) tNil)) (tC (.int 0)))) (tTest (tOp rEq (tOp rModI (tOp (rIxL K) (tVar 0) (tC (.int 0))) (tC (.int 2))) (tC (.int 1))))) (tRet (tOp rModI (tOp rModI (tOp rShrI (tVar 3) (tOp rAddI (tOp rMulI (tC (.int 20)) (tOp rDivI (tVar 1) (tCB (rLenL K) (tCons (tVar 0) tNil)))) (tC (.int 1)))) (tC (.int 1048576))) (tVar 2))) (tNext))
      (tSeq (tAsg (tOp rAddI (tOp rAddI (tOp rModI (tVar 3) (tC (.int 1000003))) (tOp rMulI (tOp rMulI (tC (.int 31)) (tVar 1)) (tVar 1))) (tC (.int 1))) (gName 4))
      (tRet (tOp rModI (tOp rModI (tOp rMulI (tOp rModI (tOp rMulI (tVar 4) (tC (.int 48271))) (tC (.int 999983))) (tC (.int 7919))) (tC (.int 524287))) (tVar 2)))))
theorem pr_draw {P : Program} {w : World} {K : PySem.W.Frag} {mg : Str → Option Value} {base : Heap} {a : Ad} (T : Tx K mg a) {f : Addr} {cdv : Value} {A : Around} {outer : List Env} {s : Shared} {H : Hp} {E : XK} (hr : Room 0 (A.deeper (envOfC "_law_draw" (defScope s_draw) s.heap.objs.size f cdv))) :
    QSs (cxOf CX0 P w K mg base ["_law_script", "_law_k", "_law_many_here", "_law_cell", "_law_seed"] "_law_draw" (defScope s_draw) f cdv A outer s H E).nox (defBody s_draw) (rd_draw K a) := by
  exact kss_cons (ks_set (i := 3) sc_draw.nd (ke_ifExp (kt_cmp op_gt (ke_callB call_len_seq T.n_len PyProof.Rows.Boot.«len» (ka_cons (kv 0) ka_nil)) ke_int) (ke_ix ix_list (kv 0) (ke_op op_mod (kv 1) (ke_callB call_len_seq T.n_len PyProof.Rows.Boot.«len» (ka_cons (kv 0) ka_nil)))) ke_int))
      (kss_cons (ks_if (kt_w (kw_and (kt_cmp op_gt (ke_callB call_len_seq T.n_len PyProof.Rows.Boot.«len» (ka_cons (kv 0) ka_nil)) ke_int) (kw_and1 (kt_cmp op_eq (ke_op op_mod (ke_ix ix_list (kv 0) ke_int) ke_int) ke_int)))) (kss_one (ks_ret (ke_op op_mod (ke_op op_mod (ke_op op_shr (kv 3) (ke_op op_add (ke_op op_mulB ke_int (ke_op op_fdiv (kv 1) (ke_callB call_len_seq T.n_len PyProof.Rows.Boot.«len» (ka_cons (kv 0) ka_nil)))) ke_int)) ke_int) (kv 2)))) (kss_nil))
      (kss_cons (ks_set (i := 4) sc_draw.nd (ke_op op_add (ke_op op_add (ke_op op_mod (kv 3) ke_int) (ke_op op_mulB (ke_op op_mulB ke_int (kv 1)) (kv 1))) ke_int))
      (kss_one (ks_ret (ke_op op_mod (ke_op op_mod (ke_op op_mulB (ke_op op_mod (ke_op op_mulB (kv 4) ke_int) ke_int) ke_int) ke_int) (kv 2))))))
theorem sc_mark : FnScope ["_law_script", "_law_base", "_law_letters", "_law_signs", "_law_text", "_law_k"] ["_law_script", "_law_base", "_law_letters"] (defScope s_mark) := ⟨rfl, rfl, rfl, by decide +kernel, rfl, by decide +kernel, by decide +kernel⟩
/-- slots: 0 script, 1 base, 2 letters, 3 signs, 4 text, 5 k -/
def rd_mark (K : PySem.W.Frag) (a : Ad) : TS :=
    tSeq (tAsg (tC (.str (txt ABC))) (gName 3))
      (tSeq (tAsg (tC (.str (txt []))) (gName 4))
      (tSeq (tFor (iRng1 (tCons (tCall (spDraw K) [] E0 (tCons (tVar 0) (tCons (tVar 1) (tCons (tC (.int 6)) tNil)))) tNil)) (gName 5) (tAsg (tOp rAddS (tVar 4) (tOp rIxStr (tVar 3) (tCall (spDraw K) [] E0 (tCons (tVar 0) (tCons (tOp rAddI (tOp rAddI (tVar 1) (tC (.int 1))) (tVar 5)) (tCons (tVar 2) tNil)))))) (gName 4)))
      (tRet (tOp rAddS (tVar 4) (tOp rIxStr (tVar 3) (tOp rAddI (tC (.int 1)) (tCall (spDraw K) [] E0 (tCons (tVar 0) (tCons (tOp rAddI (tVar 1) (tC (.int 9))) (tCons (tOp rSubI (tVar 2) (tC (.int 1))) tNil))))))))))
theorem pr_mark {P : Program} {w : World} {K : PySem.W.Frag} {mg : Str → Option Value} {base : Heap} {a : Ad} (T : Tx K mg a) (G_draw : FnOk P w K mg base CX0 1 a.f_draw a.fd_draw ["_law_script", "_law_k", "_law_many_here"] (spDraw K)) {f : Addr} {cdv : Value} {A : Around} {outer : List Env} {s : Shared} {H : Hp} {E : XK} (hr : Room 1 (A.deeper (envOfC "_law_mark" (defScope s_mark) s.heap.objs.size f cdv))) :
    QSs (cxOf CX0 P w K mg base ["_law_script", "_law_base", "_law_letters", "_law_signs", "_law_text", "_law_k"] "_law_mark" (defScope s_mark) f cdv A outer s H E).nox (defBody s_mark) (rd_mark K a) := by
  exact kss_cons (ks_set (i := 3) sc_mark.nd (ke_txt small_eq))
      (kss_cons (ks_set (i := 4) sc_mark.nd (ke_txt (by kernel_rfl)))
      (kss_cons (ks_for (ki_range1 T.n_range (ka_cons (ke_call G_draw (by exact hr.mono (by decide)) T.g_draw T.F_draw.kp T.b_draw pass0 (ka_cons (kv 0) (ka_cons (kv 1) (ka_cons ke_int ka_nil)))) ka_nil)) (kg_name (i := 5) sc_mark.nd) (kss_one (ks_set (i := 4) sc_mark.nd (ke_op op_addS (kv 4) (ke_ix ix_strL (kv 3) (ke_call G_draw (by exact hr.mono (by decide)) T.g_draw T.F_draw.kp T.b_draw pass0 (ka_cons (kv 0) (ka_cons (ke_op op_add (ke_op op_add (kv 1) ke_int) (kv 5)) (ka_cons (kv 2) ka_nil)))))))))
      (kss_one (ks_ret (ke_op op_addS (kv 4) (ke_ix ix_strL (kv 3) (ke_op op_add ke_int (ke_call G_draw (by exact hr.mono (by decide)) T.g_draw T.F_draw.kp T.b_draw pass0 (ka_cons (kv 0) (ka_cons (ke_op op_add (kv 1) ke_int) (ka_cons (ke_op op_sub (kv 2) ke_int) ka_nil)))))))))))
theorem sc_pair : FnScope ["_law_script", "_law_letters", "_law_one", "_law_other", "_law_way"] ["_law_script", "_law_letters"] (defScope s_pair) := ⟨rfl, rfl, rfl, by decide +kernel, rfl, by decide +kernel, by decide +kernel⟩
/-- slots: 0 script, 1 letters, 2 one, 3 other, 4 way -/
def rd_pair (K : PySem.W.Frag) (a : Ad) : TS :=
    tSeq (tAsg (tCall (spMark K) [] E0 (tCons (tVar 0) (tCons (tC (.int 20)) (tCons (tVar 1) tNil)))) (gName 2))
      (tSeq (tAsg (tCall (spMark K) [] E0 (tCons (tVar 0) (tCons (tC (.int 40)) (tCons (tVar 1) tNil)))) (gName 3))
      (tSeq (tAsg (tCall (spDraw K) [] E0 (tCons (tVar 0) (tCons (tC (.int 2)) (tCons (tC (.int 8)) tNil)))) (gName 4))
      (tSeq (tIfS (tTest (tOp rEq (tVar 4) (tC (.int 0)))) (tAsg (tOp rAddS (tSl rSlS (tVar 2) tNoPart (tPart (tCall (spDraw K) [] E0 (tCons (tVar 0) (tCons (tC (.int 3)) (tCons (tCB rLenS (tCons (tVar 2) tNil)) tNil)))))) (tVar 3)) (gName 3)) (tNext))
      (tSeq (tIfS (tTest (tOp rEq (tVar 4) (tC (.int 1)))) (tAsg (tOp rAddS (tOp rAddS (tVar 2) (tOp rMulS (tC (.str (txt [97]))) (tCall (spDraw K) [] E0 (tCons (tVar 0) (tCons (tC (.int 3)) (tCons (tC (.int 4)) tNil)))))) (tC (.str (txt [98])))) (gName 3)) (tNext))
      (tSeq (tIfS (tTest (tOp rEq (tVar 4) (tC (.int 2)))) (tRet (tTup (tCons (tC .non) (tCons (tC .non) tNil)))) (tNext))
      (tSeq (tIfS (tTest (tOp rEq (tVar 4) (tC (.int 3)))) (tRet (tTup (tCons (tC .non) (tCons (tVar 2) tNil)))) (tNext))
      (tSeq (tIfS (tTest (tOp rEq (tVar 4) (tC (.int 4)))) (tRet (tTup (tCons (tVar 2) (tCons (tC .non) tNil)))) (tNext))
      (tRet (tTup (tCons (tCB rMin2S (tCons (tVar 2) (tCons (tVar 3) tNil))) (tCons (tCB rMax2S (tCons (tVar 2) (tCons (tVar 3) tNil))) tNil)))))))))))
theorem pr_pair {P : Program} {w : World} {K : PySem.W.Frag} {mg : Str → Option Value} {base : Heap} {a : Ad} (T : Tx K mg a) (G_mark : FnOk P w K mg base CX0 2 a.f_mark a.fd_mark ["_law_script", "_law_base", "_law_letters"] (spMark K)) (G_draw : FnOk P w K mg base CX0 1 a.f_draw a.fd_draw ["_law_script", "_law_k", "_law_many_here"] (spDraw K)) {f : Addr} {cdv : Value} {A : Around} {outer : List Env} {s : Shared} {H : Hp} {E : XK} (hr : Room 2 (A.deeper (envOfC "_law_pair" (defScope s_pair) s.heap.objs.size f cdv))) :
    QSs (cxOf CX0 P w K mg base ["_law_script", "_law_letters", "_law_one", "_law_other", "_law_way"] "_law_pair" (defScope s_pair) f cdv A outer s H E).nox (defBody s_pair) (rd_pair K a) := by
  exact kss_cons (ks_set (i := 2) sc_pair.nd (ke_call G_mark (by exact hr.mono (by decide)) T.g_mark T.F_mark.kp T.b_mark pass0 (ka_cons (kv 0) (ka_cons ke_int (ka_cons (kv 1) ka_nil)))))
      (kss_cons (ks_set (i := 3) sc_pair.nd (ke_call G_mark (by exact hr.mono (by decide)) T.g_mark T.F_mark.kp T.b_mark pass0 (ka_cons (kv 0) (ka_cons ke_int (ka_cons (kv 1) ka_nil)))))
      (kss_cons (ks_set (i := 4) sc_pair.nd (ke_call G_draw (by exact hr.mono (by decide)) T.g_draw T.F_draw.kp T.b_draw pass0 (ka_cons (kv 0) (ka_cons ke_int (ka_cons ke_int ka_nil)))))
      (kss_cons (ks_if (kt_cmp op_eq (kv 4) ke_int) (kss_one (ks_set (i := 3) sc_pair.nd (ke_op op_addS (ke_slice sl_str (kv 2) ko_none (ko_some (ke_call G_draw (by exact hr.mono (by decide)) T.g_draw T.F_draw.kp T.b_draw pass0 (ka_cons (kv 0) (ka_cons ke_int (ka_cons (ke_callB call_lenS T.n_len PyProof.Rows.Boot.«len» (ka_cons (kv 2) ka_nil)) ka_nil)))))) (kv 3)))) (kss_nil))
      (kss_cons (ks_if (kt_cmp op_eq (kv 4) ke_int) (kss_one (ks_set (i := 3) sc_pair.nd (ke_op op_addS (ke_op op_addS (kv 2) (ke_op op_mulS (ke_txt (by kernel_rfl)) (ke_call G_draw (by exact hr.mono (by decide)) T.g_draw T.F_draw.kp T.b_draw pass0 (ka_cons (kv 0) (ka_cons ke_int (ka_cons ke_int ka_nil)))))) (ke_txt (by kernel_rfl))))) (kss_nil))
      (kss_cons (ks_if (kt_cmp op_eq (kv 4) ke_int) (kss_one (ks_ret (ke_tup (ka_cons ke_non (ka_cons ke_non ka_nil))))) (kss_nil))
      (kss_cons (ks_if (kt_cmp op_eq (kv 4) ke_int) (kss_one (ks_ret (ke_tup (ka_cons ke_non (ka_cons (kv 2) ka_nil))))) (kss_nil))
      (kss_cons (ks_if (kt_cmp op_eq (kv 4) ke_int) (kss_one (ks_ret (ke_tup (ka_cons (kv 2) (ka_cons ke_non ka_nil))))) (kss_nil))
      (kss_one (ks_ret (ke_tup (ka_cons (ke_callB (call_min2S (by kernel_rfl)) T.n_min PyProof.Rows.Boot.«min» (ka_cons (kv 2) (ka_cons (kv 3) ka_nil))) (ka_cons (ke_callB (call_max2S (by kernel_rfl)) T.n_max PyProof.Rows.Boot.«max» (ka_cons (kv 2) (ka_cons (kv 3) ka_nil))) ka_nil))))))))))))
theorem sc_whole : FnScope ["_law_letters", "_law_mark_here", "_law_long", "_law_whole_here", "_law_k", "_law_figure"] ["_law_letters", "_law_mark_here", "_law_long"] (defScope s_whole) := ⟨rfl, rfl, rfl, by decide +kernel, rfl, by decide +kernel, by decide +kernel⟩
/-- slots: 0 letters, 1 mark_here, 2 long, 3 whole_here, 4 k, 5 figure -/
def rd_whole (K : PySem.W.Frag) (a : Ad) : TS :=
    tSeq (tAsg (tC (.int 0)) (gName 3))
      (tSeq (tFor (iRng1 (tCons (tVar 2) tNil)) (gName 4) (tSeq (tAsg (tC (.int 0)) (gName 5))
      (tSeq (tIfS (tTest (tOp rLtI (tVar 4) (tCB rLenS (tCons (tVar 1) tNil)))) (tAsg (tBM K "str" rIndex (tC (.str (txt ABC))) (tCons (tOp rIxStr (tVar 1) (tVar 4)) tNil)) (gName 5)) (tNext))
      (tAsg (tOp rAddI (tOp rMulI (tVar 3) (tVar 0)) (tVar 5)) (gName 3)))))
      (tRet (tVar 3)))
theorem pr_whole {P : Program} {w : World} {K : PySem.W.Frag} {mg : Str → Option Value} {base : Heap} {a : Ad} (T : Tx K mg a) {f : Addr} {cdv : Value} {A : Around} {outer : List Env} {s : Shared} {H : Hp} {E : XK} (hr : Room 0 (A.deeper (envOfC "_law_whole" (defScope s_whole) s.heap.objs.size f cdv))) :
    QSs (cxOf CX0 P w K mg base ["_law_letters", "_law_mark_here", "_law_long", "_law_whole_here", "_law_k", "_law_figure"] "_law_whole" (defScope s_whole) f cdv A outer s H E).nox (defBody s_whole) (rd_whole K a) := by
  exact kss_cons (ks_set (i := 3) sc_whole.nd ke_int)
      (kss_cons (ks_for (ki_range1 T.n_range (ka_cons (kv 2) ka_nil)) (kg_name (i := 4) sc_whole.nd) (kss_cons (ks_set (i := 5) sc_whole.nd ke_int)
      (kss_cons (ks_if (kt_cmp op_lt (kv 4) (ke_callB call_lenS T.n_len PyProof.Rows.Boot.«len» (ka_cons (kv 1) ka_nil))) (kss_one (ks_set (i := 5) sc_whole.nd (ke_bm PySem.F.plainAttrs_str PySem.F.slot_str_index PySem.F.type_str_index mt_index (ke_txt small_eq) (ka_cons (ke_ix ix_strL (kv 1) (kv 4)) ka_nil)))) (kss_nil))
      (kss_one (ks_set (i := 3) sc_whole.nd (ke_op op_add (ke_op op_mulB (kv 3) (kv 0)) (kv 5)))))))
      (kss_one (ks_ret (kv 3))))
theorem sc_many : FnScope ["_law_letters", "_law_ends", "_law_least", "_law_most", "_law_total", "_law_figure"] ["_law_letters", "_law_ends", "_law_least", "_law_most"] (defScope s_many) := ⟨rfl, rfl, rfl, by decide +kernel, rfl, by decide +kernel, by decide +kernel⟩
/-- slots: 0 letters, 1 ends, 2 least, 3 most, 4 total, 5 figure -/
def rd_many (K : PySem.W.Frag) (a : Ad) : TS :=
    tSeq (tAsg (tC (.int 0)) (gName 4))
      (tSeq (tFor (iList K (tVar 1)) (gName 5) (tAsg (tOp rAddI (tVar 4) (tCB rMax2 (tCons (tC (.int 0)) (tCons (tOp rSubI (tOp rDivI (tOp rSubI (tVar 3) (tVar 5)) (tVar 0)) (tOp rDivI (tOp rSubI (tOp rSubI (tVar 2) (tC (.int 1))) (tVar 5)) (tVar 0))) tNil)))) (gName 4)))
      (tRet (tVar 4)))
theorem pr_many {P : Program} {w : World} {K : PySem.W.Frag} {mg : Str → Option Value} {base : Heap} {a : Ad} (T : Tx K mg a) {f : Addr} {cdv : Value} {A : Around} {outer : List Env} {s : Shared} {H : Hp} {E : XK} (hr : Room 0 (A.deeper (envOfC "_law_many" (defScope s_many) s.heap.objs.size f cdv))) :
    QSs (cxOf CX0 P w K mg base ["_law_letters", "_law_ends", "_law_least", "_law_most", "_law_total", "_law_figure"] "_law_many" (defScope s_many) f cdv A outer s H E).nox (defBody s_many) (rd_many K a) := by
  exact kss_cons (ks_set (i := 4) sc_many.nd ke_int)
      (kss_cons (ks_for (ki_list (kv 1)) (kg_name (i := 5) sc_many.nd) (kss_one (ks_set (i := 4) sc_many.nd (ke_op op_add (kv 4) (ke_callB (call_max2 (by kernel_rfl)) T.n_max PyProof.Rows.Boot.«max» (ka_cons ke_int (ka_cons (ke_op op_sub (ke_op op_fdiv (ke_op op_sub (kv 3) (kv 5)) (kv 0)) (ke_op op_fdiv (ke_op op_sub (ke_op op_sub (kv 2) ke_int) (kv 5)) (kv 0))) ka_nil)))))))
      (kss_one (ks_ret (kv 4))))
theorem sc_room : FnScope ["_law_letters", "_law_ends", "_law_low", "_law_high", "_law_long", "_law_least", "_law_most", "_law_k"] ["_law_letters", "_law_ends", "_law_low", "_law_high", "_law_long"] (defScope s_room) := ⟨rfl, rfl, rfl, by decide +kernel, rfl, by decide +kernel, by decide +kernel⟩
/-- slots: 0 letters, 1 ends, 2 low, 3 high, 4 long, 5 least, 6 most, 7 k -/
def rd_room (K : PySem.W.Frag) (a : Ad) : TS :=
    tSeq (tAsg (tC (.int 1)) (gName 5))
      (tSeq (tIfS (tB (tNotN (tVar 2))) (tAsg (tOp rAddI (tCall spLWhole [] E0 (tCons (tVar 0) (tCons (tVar 2) (tCons (tVar 4) tNil)))) (tC (.int 1))) (gName 5)) (tNext))
      (tSeq (tAsg (tC (.int 1)) (gName 6))
      (tSeq (tFor (iRng1 (tCons (tVar 4) tNil)) (gName 7) (tAsg (tOp rMulI (tVar 6) (tVar 0)) (gName 6)))
      (tSeq (tIfS (tB (tNotN (tVar 3))) (tAsg (tOp rAddI (tCall spLWhole [] E0 (tCons (tVar 0) (tCons (tVar 3) (tCons (tVar 4) tNil)))) (tCB rInt1 (tCons (tOp rGtI (tCB rLenS (tCons (tVar 3) tNil)) (tVar 4)) tNil))) (gName 6)) (tNext))
      (tRet (tTup (tCons (tVar 5) (tCons (tCall (spMany K) [] E0 (tCons (tVar 0) (tCons (tVar 1) (tCons (tVar 5) (tCons (tOp rSubI (tVar 6) (tC (.int 1))) tNil))))) tNil))))))))
theorem pr_room {P : Program} {w : World} {K : PySem.W.Frag} {mg : Str → Option Value} {base : Heap} {a : Ad} (T : Tx K mg a) (G_whole : FnOk P w K mg base CX0 1 a.f_whole a.fd_whole ["_law_letters", "_law_mark_here", "_law_long"] spLWhole) (G_many : FnOk P w K mg base CX0 1 a.f_many a.fd_many ["_law_letters", "_law_ends", "_law_least", "_law_most"] (spMany K)) {f : Addr} {cdv : Value} {A : Around} {outer : List Env} {s : Shared} {H : Hp} {E : XK} (hr : Room 1 (A.deeper (envOfC "_law_room" (defScope s_room) s.heap.objs.size f cdv))) :
    QSs (cxOf CX0 P w K mg base ["_law_letters", "_law_ends", "_law_low", "_law_high", "_law_long", "_law_least", "_law_most", "_law_k"] "_law_room" (defScope s_room) f cdv A outer s H E).nox (defBody s_room) (rd_room K a) := by
  exact kss_cons (ks_set (i := 5) sc_room.nd ke_int)
      (kss_cons (ks_if (kt_notN (kv 2)) (kss_one (ks_set (i := 5) sc_room.nd (ke_op op_add (ke_call G_whole (by exact hr.mono (by decide)) T.g_whole T.F_whole.kp T.b_whole pass0 (ka_cons (kv 0) (ka_cons (kv 2) (ka_cons (kv 4) ka_nil)))) ke_int))) (kss_nil))
      (kss_cons (ks_set (i := 6) sc_room.nd ke_int)
      (kss_cons (ks_for (ki_range1 T.n_range (ka_cons (kv 4) ka_nil)) (kg_name (i := 7) sc_room.nd) (kss_one (ks_set (i := 6) sc_room.nd (ke_op op_mulB (kv 6) (kv 0)))))
      (kss_cons (ks_if (kt_notN (kv 3)) (kss_one (ks_set (i := 6) sc_room.nd (ke_op op_add (ke_call G_whole (by exact hr.mono (by decide)) T.g_whole T.F_whole.kp T.b_whole pass0 (ka_cons (kv 0) (ka_cons (kv 3) (ka_cons (kv 4) ka_nil)))) (ke_callTy call_int1 T.n_int PyProof.Rows.Boot.«int» (ka_cons (ke_cmp op_gt (ke_callB call_lenS T.n_len PyProof.Rows.Boot.«len» (ka_cons (kv 3) ka_nil)) (kv 4)) ka_nil))))) (kss_nil))
      (kss_one (ks_ret (ke_tup (ka_cons (kv 5) (ka_cons (ke_call G_many (by exact hr.mono (by decide)) T.g_many T.F_many.kp T.b_many pass0 (ka_cons (kv 0) (ka_cons (kv 1) (ka_cons (kv 5) (ka_cons (ke_op op_sub (kv 6) ke_int) ka_nil))))) ka_nil)))))))))
theorem sc_good : FnScope ["_law_letters", "_law_ends", "_law_low", "_law_high", "_law_marks", "_law_long", "_law_room_here", "_law_size", "_law_k", "_law_mark_here", "_law_ahead"] ["_law_letters", "_law_ends", "_law_low", "_law_high", "_law_marks"] (defScope s_good) := ⟨rfl, rfl, rfl, by decide +kernel, rfl, by decide +kernel, by decide +kernel⟩
/-- slots: 0 letters, 1 ends, 2 low, 3 high, 4 marks, 5 long, 6 room_here, 7 size, 8 k, 9 mark_here, 10 ahead -/
def rd_good (K : PySem.W.Frag) (a : Ad) : TS :=
    tSeq (tAsg (tCB rLenS (tCons (tOp (rIxL K) (tVar 4) (tC (.int 0))) tNil)) (gName 5))
      (tSeq (tAsg (tCall (spLRoom K) [] E0 (tCons (tVar 0) (tCons (tVar 1) (tCons (tVar 2) (tCons (tVar 3) (tCons (tVar 5) tNil)))))) (gName 6))
      (tSeq (tFor (iRng2 (tCons (tC (.int 1)) (tCons (tVar 5) tNil))) (gName 7) (tIfS (tTest (tOp rGeI (tOp (rIxT K) (tCall (spLRoom K) [] E0 (tCons (tVar 0) (tCons (tVar 1) (tCons (tVar 2) (tCons (tVar 3) (tCons (tVar 7) tNil)))))) (tC (.int 1))) (tCB (rLenL K) (tCons (tVar 4) tNil)))) (tRet (tC (.bl false))) (tNext)))
      (tSeq (tFor (iRng1 (tCons (tCB (rLenL K) (tCons (tVar 4) tNil)) tNil)) (gName 8) (tSeq (tAsg (tOp (rIxL K) (tVar 4) (tVar 8)) (gName 9))
      (tSeq (tIfS (tOr (tTest (tOp rNe (tCB rLenS (tCons (tVar 9) tNil)) (tVar 5))) (tTest (tOp (rIn K true) (tBM K "str" rIndex (tC (.str (txt ABC))) (tCons (tOp rIxStr (tVar 9) (tOp rSubI (tVar 5) (tC (.int 1)))) tNil)) (tVar 1)))) (tRet (tC (.bl false))) (tNext))
      (tSeq (tIfS (tOr (tAnd (tB (tNotN (tVar 2))) (tNot (tTest (tOp rLtS (tVar 2) (tVar 9))))) (tAnd (tB (tNotN (tVar 3))) (tNot (tTest (tOp rLtS (tVar 9) (tVar 3)))))) (tRet (tC (.bl false))) (tNext))
      (tSeq (tAsg (tCall (spMany K) [] E0 (tCons (tVar 0) (tCons (tVar 1) (tCons (tOp (rIxT K) (tVar 6) (tC (.int 0))) (tCons (tOp rSubI (tCall spLWhole [] E0 (tCons (tVar 0) (tCons (tVar 9) (tCons (tVar 5) tNil)))) (tC (.int 1))) tNil))))) (gName 10))
      (tIfS (tOr (tTest (tOp rNe (tVar 10) (tOp rSubI (tOp rDivI (tOp rMulI (tOp rAddI (tVar 8) (tC (.int 1))) (tOp rAddI (tOp (rIxT K) (tVar 6) (tC (.int 1))) (tC (.int 1)))) (tOp rAddI (tCB (rLenL K) (tCons (tVar 4) tNil)) (tC (.int 1)))) (tC (.int 1))))) (tAnd (tTest (tOp rGtI (tVar 8) (tC (.int 0)))) (tNot (tTest (tOp rLtS (tOp (rIxL K) (tVar 4) (tOp rSubI (tVar 8) (tC (.int 1)))) (tVar 9)))))) (tRet (tC (.bl false))) (tNext)))))))
      (tRet (tC (.bl true))))))
theorem pr_good {P : Program} {w : World} {K : PySem.W.Frag} {mg : Str → Option Value} {base : Heap} {a : Ad} (T : Tx K mg a) (G_room : FnOk P w K mg base CX0 2 a.f_room a.fd_room ["_law_letters", "_law_ends", "_law_low", "_law_high", "_law_long"] (spLRoom K)) (G_whole : FnOk P w K mg base CX0 1 a.f_whole a.fd_whole ["_law_letters", "_law_mark_here", "_law_long"] spLWhole) (G_many : FnOk P w K mg base CX0 1 a.f_many a.fd_many ["_law_letters", "_law_ends", "_law_least", "_law_most"] (spMany K)) {f : Addr} {cdv : Value} {A : Around} {outer : List Env} {s : Shared} {H : Hp} {E : XK} (hr : Room 2 (A.deeper (envOfC "_law_good" (defScope s_good) s.heap.objs.size f cdv))) :
    QSs (cxOf CX0 P w K mg base ["_law_letters", "_law_ends", "_law_low", "_law_high", "_law_marks", "_law_long", "_law_room_here", "_law_size", "_law_k", "_law_mark_here", "_law_ahead"] "_law_good" (defScope s_good) f cdv A outer s H E).nox (defBody s_good) (rd_good K a) := by
  exact kss_cons (ks_set (i := 5) sc_good.nd (ke_callB call_lenS T.n_len PyProof.Rows.Boot.«len» (ka_cons (ke_ix ix_list (kv 4) ke_int) ka_nil)))
      (kss_cons (ks_set (i := 6) sc_good.nd (ke_call G_room (by exact hr.mono (by decide)) T.g_room T.F_room.kp T.b_room pass0 (ka_cons (kv 0) (ka_cons (kv 1) (ka_cons (kv 2) (ka_cons (kv 3) (ka_cons (kv 5) ka_nil)))))))
      (kss_cons (ks_for (ki_range2 T.n_range (ka_cons ke_int (ka_cons (kv 5) ka_nil))) (kg_name (i := 7) sc_good.nd) (kss_one (ks_if (kt_cmp op_ge (ke_ix ix_tup (ke_call G_room (by exact hr.mono (by decide)) T.g_room T.F_room.kp T.b_room pass0 (ka_cons (kv 0) (ka_cons (kv 1) (ka_cons (kv 2) (ka_cons (kv 3) (ka_cons (kv 7) ka_nil)))))) ke_int) (ke_callB call_len_seq T.n_len PyProof.Rows.Boot.«len» (ka_cons (kv 4) ka_nil))) (kss_one (ks_ret ke_bl)) (kss_nil))))
      (kss_cons (ks_for (ki_range1 T.n_range (ka_cons (ke_callB call_len_seq T.n_len PyProof.Rows.Boot.«len» (ka_cons (kv 4) ka_nil)) ka_nil)) (kg_name (i := 8) sc_good.nd) (kss_cons (ks_set (i := 9) sc_good.nd (ke_ix ix_list (kv 4) (kv 8)))
      (kss_cons (ks_if (kt_w (kw_or (kt_cmp op_ne (ke_callB call_lenS T.n_len PyProof.Rows.Boot.«len» (ka_cons (kv 9) ka_nil)) (kv 5)) (kw_or1 (kt_cmp op_notIn_seq (ke_bm PySem.F.plainAttrs_str PySem.F.slot_str_index PySem.F.type_str_index mt_index (ke_txt small_eq) (ka_cons (ke_ix ix_strL (kv 9) (ke_op op_sub (kv 5) ke_int)) ka_nil)) (kv 1))))) (kss_one (ks_ret ke_bl)) (kss_nil))
      (kss_cons (ks_if (kt_w (kw_or (kt_w (kw_and (kt_notN (kv 2)) (kw_and1 (kt_not (kt_cmp op_ltS (kv 2) (kv 9)))))) (kw_or1 (kt_w (kw_and (kt_notN (kv 3)) (kw_and1 (kt_not (kt_cmp op_ltS (kv 9) (kv 3))))))))) (kss_one (ks_ret ke_bl)) (kss_nil))
      (kss_cons (ks_set (i := 10) sc_good.nd (ke_call G_many (by exact hr.mono (by decide)) T.g_many T.F_many.kp T.b_many pass0 (ka_cons (kv 0) (ka_cons (kv 1) (ka_cons (ke_ix ix_tup (kv 6) ke_int) (ka_cons (ke_op op_sub (ke_call G_whole (by exact hr.mono (by decide)) T.g_whole T.F_whole.kp T.b_whole pass0 (ka_cons (kv 0) (ka_cons (kv 9) (ka_cons (kv 5) ka_nil)))) ke_int) ka_nil))))))
      (kss_one (ks_if (kt_w (kw_or (kt_cmp op_ne (kv 10) (ke_op op_sub (ke_op op_fdiv (ke_op op_mulB (ke_op op_add (kv 8) ke_int) (ke_op op_add (ke_ix ix_tup (kv 6) ke_int) ke_int)) (ke_op op_add (ke_callB call_len_seq T.n_len PyProof.Rows.Boot.«len» (ka_cons (kv 4) ka_nil)) ke_int)) ke_int)) (kw_or1 (kt_w (kw_and (kt_cmp op_gt (kv 8) ke_int) (kw_and1 (kt_not (kt_cmp op_ltS (ke_ix ix_list (kv 4) (ke_op op_sub (kv 8) ke_int)) (kv 9))))))))) (kss_one (ks_ret ke_bl)) (kss_nil))))))))
      (kss_one (ks_ret ke_bl)))))
theorem sc_refused : FnScope ["_law_letters", "_law_hands", "_law_hand", "_law_low", "_law_high", "_law_many_here", "_law_good_here", "e"] ["_law_letters", "_law_hands", "_law_hand", "_law_low", "_law_high", "_law_many_here"] (defScope s_refused) := ⟨rfl, rfl, rfl, by decide +kernel, rfl, by decide +kernel, by decide +kernel⟩
/-- slots: 0 letters, 1 hands, 2 hand, 3 low, 4 high, 5 many_here, 6 good_here, 7 e -/
def rd_refused (K : PySem.W.Frag) (a : Ad) : TS :=
    tSeq (tAsg (tC (.bl false)) (gName 6))
      (tSeq (tTryE K a.c_ShelfError 7 (fun Φ => tDrop (tCallX (spRun a.c_NoRoom) Φ (tCons (tVar 0) (tCons (tVar 1) (tCons (tVar 2) (tCons (tVar 3) (tCons (tVar 4) (tCons (tVar 5) tNil)))))))) (tAsg (tIsX a.c_NoRoom (tVar 7)) (gName 6)))
      (tRet (tVar 6)))
theorem pr_refused {P : Program} {w : World} {K : PySem.W.Frag} {mg : Str → Option Value} {base : Heap} {a : Ad} (T : Tx K mg a) (G_run_between : FnOk P w K mg base (CX1 P w) 6 a.f_run_between a.fd_run_between ["letters", "hands", "hand", "low", "high", "many"] (spRun a.c_NoRoom)) {f : Addr} {cdv : Value} {A : Around} {outer : List Env} {s : Shared} {H : Hp} {E : XK} (hr : Room 6 (A.deeper (envOfC "_law_refused" (defScope s_refused) s.heap.objs.size f cdv))) :
    QSs (cxOf CX0 P w K mg base ["_law_letters", "_law_hands", "_law_hand", "_law_low", "_law_high", "_law_many_here", "_law_good_here", "e"] "_law_refused" (defScope s_refused) f cdv A outer s H E).nox (defBody s_refused) (rd_refused K a) := by
  exact kss_cons (ks_set (i := 6) sc_refused.nd ke_bl)
      (kss_cons (ks_tryE (i := 7) sc_refused.nd T.m_ShelfError (fun _ _ _ hx => kss_one (ks_expr (ke_callX G_run_between (by exact hr.mono (by decide)) T.g_run_between T.F_run_between.kp T.b_run_between hx (ka_cons (kv 0) (ka_cons (kv 1) (ka_cons (kv 2) (ka_cons (kv 3) (ka_cons (kv 4) (ka_cons (kv 5) ka_nil))))))))) (fun _ => kss_one (ks_set (i := 6) sc_refused.nd (ke_isX T.n_isinstance PyProof.Rows.Boot.«isinstance» T.m_NoRoom (kv 7)))))
      (kss_one (ks_ret (kv 6))))
theorem sc_law : FnScope ["_law_script", "_law_letters", "_law_hands", "_law_hand", "_law_ends", "_law_low", "_law_high", "_law_many_here", "_law_marks"] ["_law_script"] (defScope s_law) := ⟨rfl, rfl, rfl, by decide +kernel, rfl, by decide +kernel, by decide +kernel⟩
/-- slots: 0 script, 1 letters, 2 hands, 3 hand, 4 ends, 5 low, 6 high, 7 many_here, 8 marks -/
def rd_law (K : PySem.W.Frag) (a : Ad) : TS :=
    tSeq (tAsg (tOp (rIxL K) (tLst (tCons (tC (.int 2)) (tCons (tC (.int 3)) (tCons (tC (.int 4)) (tCons (tC (.int 10)) (tCons (tC (.int 26)) (tCons (tOp rAddI (tC (.int 2)) (tCall (spDraw K) [] E0 (tCons (tVar 0) (tCons (tC (.int 1)) (tCons (tC (.int 25)) tNil))))) tNil))))))) (tCall (spDraw K) [] E0 (tCons (tVar 0) (tCons (tC (.int 0)) (tCons (tC (.int 6)) tNil))))) (gName 1))
      (tSeq (tAsg (tOp (rIxL K) (tLst (tCons (tC (.int 1)) (tCons (tOp rSubI (tVar 1) (tC (.int 1))) (tCons (tOp rAddI (tC (.int 1)) (tCall (spDraw K) [] E0 (tCons (tVar 0) (tCons (tC (.int 4)) (tCons (tOp rSubI (tVar 1) (tC (.int 1))) tNil))))) tNil)))) (tCall (spDraw K) [] E0 (tCons (tVar 0) (tCons (tC (.int 5)) (tCons (tC (.int 3)) tNil))))) (gName 2))
      (tSeq (tAsg (tCall (spDraw K) [] E0 (tCons (tVar 0) (tCons (tC (.int 6)) (tCons (tVar 2) tNil)))) (gName 3))
      (tSeq (tAsg (tListR3 (tCons (tOp rAddI (tC (.int 1)) (tVar 3)) (tCons (tVar 1) (tCons (tVar 2) tNil)))) (gName 4))
      (tSeq (tAsg (tCall (spPair K) [] E0 (tCons (tVar 0) (tCons (tVar 1) tNil))) (gTup K 2 (gCons (gName 5) (gCons (gName 6) gNil))))
      (tSeq (tAsg (tOp (rIxL K) (tLst (tCons (tC (.int 1)) (tCons (tC (.int 2)) (tCons (tOp rAddI (tC (.int 1)) (tCall (spDraw K) [] E0 (tCons (tVar 0) (tCons (tC (.int 7)) (tCons (tC (.int 40)) tNil))))) tNil)))) (tCall (spDraw K) [] E0 (tCons (tVar 0) (tCons (tC (.int 8)) (tCons (tC (.int 3)) tNil))))) (gName 7))
      (tSeq (tIfS (tTest (tOp rEq (tCall (spDraw K) [] E0 (tCons (tVar 0) (tCons (tC (.int 9)) (tCons (tC (.int 6)) tNil)))) (tC (.int 1)))) (tAsg (tOp rAddI (tC (.int 100)) (tCall (spDraw K) [] E0 (tCons (tVar 0) (tCons (tC (.int 7)) (tCons (tC (.int 201)) tNil))))) (gName 7)) (tNext))
      (tSeq (tIfS (tAnd (tB (tNotN (tVar 5))) (tB (tNotN (tVar 6)))) (tSeq (tIfS (tNot (tB (tCall spRefused [] E0 (tCons (tVar 1) (tCons (tVar 2) (tCons (tVar 3) (tCons (tVar 6) (tCons (tVar 5) (tCons (tVar 7) tNil))))))))) (tRet (tC (.bl false))) (tNext))
      (tIfS (tTest (tOp rEq (tVar 5) (tVar 6))) (tRet (tC (.bl true))) (tNext))) (tNext))
      (tSeq (tAsg (tCall (spRun a.c_NoRoom) [] E0 (tCons (tVar 1) (tCons (tVar 2) (tCons (tVar 3) (tCons (tVar 5) (tCons (tVar 6) (tCons (tVar 7) tNil))))))) (gName 8))
      (tSeq (tIfS (tOr (tNot (tB (tIsi K "list" (tVar 8)))) (tOr (tTest (tOp rNe (tCB (rLenL K) (tCons (tVar 8) tNil)) (tVar 7))) (tTest (tOp (rIn K false) (tC (.str (txt []))) (tVar 8))))) (tRet (tC (.bl false))) (tNext))
      (tSeq (tIfS (tTest (tOp rNe (tCall (spLeast a.c_NoRoom) [] E0 (tCons (tVar 1) (tCons (tVar 2) (tCons (tVar 3) (tCons (tVar 5) (tCons (tVar 6) (tCons (tVar 7) tNil))))))) (tCB rLenS (tCons (tOp (rIxL K) (tVar 8) (tC (.int 0))) tNil)))) (tRet (tC (.bl false))) (tNext))
      (tSeq (tIfS (tAnd (tTest (tOp rEq (tVar 7) (tC (.int 1)))) (tTest (tOp rEq (tIsN (tVar 5)) (tIsN (tVar 6))))) (tIfS (tTest (tOp (rNeLS K) (tVar 8) (tLst (tCons (tCall (spBetween a.c_NoRoom) [] E0 (tCons (tVar 1) (tCons (tVar 2) (tCons (tVar 3) (tCons (tVar 5) (tCons (tVar 6) tNil)))))) tNil)))) (tRet (tC (.bl false))) (tNext)) (tNext))
      (tRet (tCall (spGood K) [] E0 (tCons (tVar 1) (tCons (tVar 4) (tCons (tVar 5) (tCons (tVar 6) (tCons (tVar 8) tNil))))))))))))))))))
theorem pr_law {P : Program} {w : World} {K : PySem.W.Frag} {mg : Str → Option Value} {base : Heap} {a : Ad} (T : Tx K mg a) (G_draw : FnOk P w K mg base CX0 1 a.f_draw a.fd_draw ["_law_script", "_law_k", "_law_many_here"] (spDraw K)) (G_pair : FnOk P w K mg base CX0 3 a.f_pair a.fd_pair ["_law_script", "_law_letters"] (spPair K)) (G_refused : FnOk P w K mg base CX0 7 a.f_refused a.fd_refused ["_law_letters", "_law_hands", "_law_hand", "_law_low", "_law_high", "_law_many_here"] spRefused) (G_run_between : FnOk P w K mg base (CX1 P w) 6 a.f_run_between a.fd_run_between ["letters", "hands", "hand", "low", "high", "many"] (spRun a.c_NoRoom)) (G_least_long : FnOk P w K mg base (CX1 P w) 5 a.f_least_long a.fd_least_long ["letters", "hands", "hand", "low", "high", "many"] (spLeast a.c_NoRoom)) (G_mark_between : FnOk P w K mg base (CX1 P w) 6 a.f_mark_between a.fd_mark_between ["letters", "hands", "hand", "low", "high"] (spBetween a.c_NoRoom)) (G_good : FnOk P w K mg base CX0 3 a.f_good a.fd_good ["_law_letters", "_law_ends", "_law_low", "_law_high", "_law_marks"] (spGood K)) {f : Addr} {cdv : Value} {A : Around} {outer : List Env} {s : Shared} {H : Hp} {E : XK} (hr : Room 7 (A.deeper (envOfC "law" (defScope s_law) s.heap.objs.size f cdv))) :
    QSs (cxOf CX0 P w K mg base ["_law_script", "_law_letters", "_law_hands", "_law_hand", "_law_ends", "_law_low", "_law_high", "_law_many_here", "_law_marks"] "law" (defScope s_law) f cdv A outer s H E).nox (defBody s_law) (rd_law K a) := by
  have hu := Room.units hr
  exact kss_cons (ks_set (i := 1) sc_law.nd (ke_ix ix_list (ke_lst (ka_cons ke_int (ka_cons ke_int (ka_cons ke_int (ka_cons ke_int (ka_cons ke_int (ka_cons (ke_op op_add ke_int (ke_call G_draw (by exact hr.mono (by decide)) T.g_draw T.F_draw.kp T.b_draw pass0 (ka_cons (kv 0) (ka_cons ke_int (ka_cons ke_int ka_nil))))) ka_nil))))))) (ke_call G_draw (by exact hr.mono (by decide)) T.g_draw T.F_draw.kp T.b_draw pass0 (ka_cons (kv 0) (ka_cons ke_int (ka_cons ke_int ka_nil))))))
      (kss_cons (ks_set (i := 2) sc_law.nd (ke_ix ix_list (ke_lst (ka_cons ke_int (ka_cons (ke_op op_sub (kv 1) ke_int) (ka_cons (ke_op op_add ke_int (ke_call G_draw (by exact hr.mono (by decide)) T.g_draw T.F_draw.kp T.b_draw pass0 (ka_cons (kv 0) (ka_cons ke_int (ka_cons (ke_op op_sub (kv 1) ke_int) ka_nil))))) ka_nil)))) (ke_call G_draw (by exact hr.mono (by decide)) T.g_draw T.F_draw.kp T.b_draw pass0 (ka_cons (kv 0) (ka_cons ke_int (ka_cons ke_int ka_nil))))))
      (kss_cons (ks_set (i := 3) sc_law.nd (ke_call G_draw (by exact hr.mono (by decide)) T.g_draw T.F_draw.kp T.b_draw pass0 (ka_cons (kv 0) (ka_cons ke_int (ka_cons (kv 2) ka_nil)))))
      (kss_cons (ks_set (i := 4) sc_law.nd (ke_listR3 (by kernel_rfl) T.n_list T.n_range (ka_cons (ke_op op_add ke_int (kv 3)) (ka_cons (kv 1) (ka_cons (kv 2) ka_nil)))))
      (kss_cons (ks_asg (ke_call G_pair (by exact hr.mono (by decide)) T.g_pair T.F_pair.kp T.b_pair pass0 (ka_cons (kv 0) (ka_cons (kv 1) ka_nil))) (kg_tup (kgs_cons (kg_name (i := 5) sc_law.nd) (kgs_cons (kg_name (i := 6) sc_law.nd) kgs_nil))))
      (kss_cons (ks_set (i := 7) sc_law.nd (ke_ix ix_list (ke_lst (ka_cons ke_int (ka_cons ke_int (ka_cons (ke_op op_add ke_int (ke_call G_draw (by exact hr.mono (by decide)) T.g_draw T.F_draw.kp T.b_draw pass0 (ka_cons (kv 0) (ka_cons ke_int (ka_cons ke_int ka_nil))))) ka_nil)))) (ke_call G_draw (by exact hr.mono (by decide)) T.g_draw T.F_draw.kp T.b_draw pass0 (ka_cons (kv 0) (ka_cons ke_int (ka_cons ke_int ka_nil))))))
      (kss_cons (ks_if (kt_cmp op_eq (ke_call G_draw (by exact hr.mono (by decide)) T.g_draw T.F_draw.kp T.b_draw pass0 (ka_cons (kv 0) (ka_cons ke_int (ka_cons ke_int ka_nil)))) ke_int) (kss_one (ks_set (i := 7) sc_law.nd (ke_op op_add ke_int (ke_call G_draw (by exact hr.mono (by decide)) T.g_draw T.F_draw.kp T.b_draw pass0 (ka_cons (kv 0) (ka_cons ke_int (ka_cons ke_int ka_nil))))))) (kss_nil))
      (kss_cons (ks_if (kt_w (kw_and (kt_notN (kv 5)) (kw_and1 (kt_notN (kv 6))))) (kss_cons (ks_if (kt_not (kt_val (ke_call G_refused (by exact hr.mono (by decide)) T.g_refused T.F_refused.kp T.b_refused pass0 (ka_cons (kv 1) (ka_cons (kv 2) (ka_cons (kv 3) (ka_cons (kv 6) (ka_cons (kv 5) (ka_cons (kv 7) ka_nil))))))))) (kss_one (ks_ret ke_bl)) (kss_nil))
      (kss_one (ks_if (kt_cmp op_eq (kv 5) (kv 6)) (kss_one (ks_ret ke_bl)) (kss_nil)))) (kss_nil))
      (kss_cons (ks_set (i := 8) sc_law.nd (ke_call G_run_between (by exact hr.mono (by decide)) T.g_run_between T.F_run_between.kp T.b_run_between pass1 (ka_cons (kv 1) (ka_cons (kv 2) (ka_cons (kv 3) (ka_cons (kv 5) (ka_cons (kv 6) (ka_cons (kv 7) ka_nil))))))))
      (kss_cons (ks_if (kt_w (kw_or (kt_not (kt_val (ke_isi T.n_isinstance PyProof.Rows.Boot.«isinstance» T.n_list PyProof.Rows.Boot.«list» (kv 8)))) (kw_or (kt_cmp op_ne (ke_callB call_len_seq T.n_len PyProof.Rows.Boot.«len» (ka_cons (kv 8) ka_nil)) (kv 7)) (kw_or1 (kt_cmp op_in_seq (ke_txt (by kernel_rfl)) (kv 8)))))) (kss_one (ks_ret ke_bl)) (kss_nil))
      (kss_cons (ks_if (kt_cmp op_ne (ke_call G_least_long (by exact hr.mono (by decide)) T.g_least_long T.F_least_long.kp T.b_least_long pass1 (ka_cons (kv 1) (ka_cons (kv 2) (ka_cons (kv 3) (ka_cons (kv 5) (ka_cons (kv 6) (ka_cons (kv 7) ka_nil))))))) (ke_callB call_lenS T.n_len PyProof.Rows.Boot.«len» (ka_cons (ke_ix ix_list (kv 8) ke_int) ka_nil))) (kss_one (ks_ret ke_bl)) (kss_nil))
      (kss_cons (ks_if (kt_w (kw_and (kt_cmp op_eq (kv 7) ke_int) (kw_and1 (kt_cmp op_eq (ke_isN (kv 5)) (ke_isN (kv 6)))))) (kss_one (ks_if (kt_cmp (op_neLS hu) (kv 8) (ke_lst (ka_cons (ke_call G_mark_between (by exact hr.mono (by decide)) T.g_mark_between T.F_mark_between.kp T.b_mark_between pass1 (ka_cons (kv 1) (ka_cons (kv 2) (ka_cons (kv 3) (ka_cons (kv 5) (ka_cons (kv 6) ka_nil)))))) ka_nil))) (kss_one (ks_ret ke_bl)) (kss_nil))) (kss_nil))
      (kss_one (ks_ret (ke_call G_good (by exact hr.mono (by decide)) T.g_good T.F_good.kp T.b_good pass0 (ka_cons (kv 1) (ka_cons (kv 4) (ka_cons (kv 5) (ka_cons (kv 6) (ka_cons (kv 8) ka_nil)))))))))))))))))))
end K07

set_option Elab.async false
set_option linter.all false
set_option maxRecDepth 100000
set_option maxHeartbeats 4000000
namespace K07
open PySem PySem.Spec PyProof.Rows L2 MM
theorem figs_from {L h j : Nat} (hj : j < h) : ∀ (c i : Nat), L ≤ 1 + j + (i + c) * h → (∀ x, i ≤ x → x < i + c → 1 + j + x * h < L) →
    (List.range' i c).map (fun (x : Nat) => V.int (1 + (j : Int) + (x : Nat) * (h : Int))) = (endsFrom L h j (1 + j + i * h)).map fun e => V.int ((e - 97 : Nat) : Int)
  | 0, i, hL, _ => by rw [endsFrom_stop (by simpa using hL)]; rfl
  | c + 1, i, hL, hx => by
    have hmod : (1 + j + i * h - 1) % h = j := by
      rw [show 1 + j + i * h - 1 = j + i * h by omega, Nat.add_mul_mod_self_right, Nat.mod_eq_of_lt hj]
    rw [endsFrom_step (by omega) (by omega) (hx i (Nat.le_refl _) (by omega)) hmod, List.range'_succ, List.map_cons, List.map_cons]
    have ih := figs_from (L := L) hj c (i + 1) (by rw [show i + 1 + c = i + (c + 1) by omega]; exact hL) fun x h1 h2 => hx x (by omega) (by omega)
    rw [ih, show 1 + j + (i + 1) * h = 1 + j + i * h + h by rw [Nat.add_mul]; omega]
    congr 1
    rw [show 97 + (1 + j + i * h) - 97 = 1 + j + i * h by omega, Int.natCast_add, Int.natCast_add, Int.natCast_mul]
    rfl
theorem figs_eq {L h j : Nat} (D : Hands L h j) : (List.range (rngN (1 + (j : Int)) L h)).map (fun (x : Nat) => V.int (1 + (j : Int) + (x : Nat) * (h : Int))) = figs L h j := by
  have hj := D.hj
  have hh := D.hh
  have hrn : rngN (1 + (j : Int)) L h = (L - 2 - j) / h + 1 := by
    unfold rngN
    rw [if_pos (by omega)]
    have : ((L : Int) - (1 + (j : Int)) - 1) / (h : Int) = (((L - 2 - j) / h : Nat) : Int) := by
      rw [show (L : Int) - (1 + (j : Int)) - 1 = ((L - 2 - j : Nat) : Int) by omega]
      exact (Int.natCast_ediv _ _).symm
    rw [this]
    generalize (L - 2 - j) / h = z
    omega
  have hdm := Nat.div_add_mod (L - 2 - j) h
  have hml := Nat.mod_lt (L - 2 - j) (show 0 < h by omega)
  have ff := figs_from (L := L) hj ((L - 2 - j) / h + 1) 0 (by rw [Nat.zero_add, Nat.add_mul, Nat.one_mul, Nat.mul_comm]; omega) fun x _ hx => by
    have hih : x * h ≤ (L - 2 - j) / h * h := Nat.mul_le_mul_right _ (by omega)
    rw [Nat.mul_comm ((L - 2 - j) / h) h] at hih
    omega
  rw [hrn, List.range_eq_range', ff]
  rw [Nat.zero_mul, Nat.add_zero, endsFrom_start hj]
  rfl
theorem read_many {K : PySem.W.Frag} {a : Ad} {N : List Str} {vs : List V} {H : Hp} {Q : VK} {E : XK} (hN : N.length = 6) (h : spMany K vs H Q E) : rd_many K a { nx := fun _ H' => Q .non H', rt := Q } (L2.start N vs) H := by
  obtain ⟨p, L, h, j, A, M, rfl, hF, D, hAM, q⟩ := h
  unfold rd_many L2.start
  rw [hN]
  have hl2 := D.l2
  have hl26 := D.l26
  have hL0 : 0 < L := by omega
  have EN := ends_ok (K := L) D.hj D.hh
  have hsum := ob_sum (N := M) (A := A) hL0 EN
  unfold figs at hF
  generalize endsL L h j = es at hF EN hsum q
  simp only [tCompSet, tRaise, tIsi, tSeq, tAsg, gName, tOp, tUn, tVar, tC, tTest, tB, tIf, tIfS, tAnd, tOr, tNot, tAndV, tOrV, tNotV, tRet, tRetN, tNext, tDrop, tCB, tCons, tNil, tBM, tBM0, tCall, tLst, tTup, tSl, tPart, tNoPart, tIsN, tNotN, tYes, tBreak, tCont, rI0, rI, rU, rEq, rNe, L2.start, compSt, List.map_cons, List.map_nil, List.length_cons, List.length_nil, List.replicate_succ, List.replicate_zero, List.cons_append, List.nil_append, List.append_nil, List.getElem?_cons_zero, List.getElem?_cons_succ, List.set_cons_zero, List.set_cons_succ, Option.some.injEq, Option.join_some, V.int.injEq, V.str.injEq, V.bl.injEq, V.ref.injEq, txt_inj, exists_eq_left', exists_eq_left, exists_and_left, and_true, true_and, decide_eq_true_eq, reduceCtorEq, decide_false, decide_true, Bool.not_false, Bool.not_true, if_true, if_false, Bool.false_eq_true, Nat.reduceAdd, Nat.reduceSub, Bool.not_eq_true', decide_eq_false_iff_not, not_true_eq_false, not_false_eq_true]
  refine for_l (a := p) (fun Q h => ⟨_, rfl, h⟩) hF (fun i σ H' => H' = H ∧ ∃ (t : Int) (v5 : Option V), σ = [some (.int L), some (.ref p), some (.int A), some (.int ((M : Int) - 1)), some (.int t), v5] ∧ t + ((es.drop i).map fun e => gI L M e - gI L A e).sum = (ob L es M : Int) - (ob L es A : Int))
    ⟨rfl, 0, none, rfl, by rw [List.drop_zero, hsum, Int.zero_add]⟩ (fun i σ H' _ q => by rw [q.1]; exact hF) ?_ ?_
  · rintro i x σ H1 hx ⟨rfl, t, v5, rfl, ht⟩
    rw [List.getElem?_map] at hx
    obtain ⟨e, he, rfl⟩ := Option.map_eq_some_iff.mp hx
    have hil : i < es.length := (List.getElem?_eq_some_iff.mp he).1
    rw [List.drop_eq_getElem_cons hil, List.map_cons, List.sum_cons] at ht
    have hee : es[i] = e := (List.getElem?_eq_some_iff.mp he).2
    rw [hee] at ht
    simp only [tCompSet, tRaise, tIsi, tSeq, tAsg, gName, tOp, tUn, tVar, tC, tTest, tB, tIf, tIfS, tAnd, tOr, tNot, tAndV, tOrV, tNotV, tRet, tRetN, tNext, tDrop, tCB, tCons, tNil, tBM, tBM0, tCall, tLst, tTup, tSl, tPart, tNoPart, tIsN, tNotN, tYes, tBreak, tCont, rI0, rI, rU, rEq, rNe, L2.start, compSt, List.map_cons, List.map_nil, List.length_cons, List.length_nil, List.replicate_succ, List.replicate_zero, List.cons_append, List.nil_append, List.append_nil, List.getElem?_cons_zero, List.getElem?_cons_succ, List.set_cons_zero, List.set_cons_succ, Option.some.injEq, Option.join_some, V.int.injEq, V.str.injEq, V.bl.injEq, V.ref.injEq, txt_inj, exists_eq_left', exists_eq_left, exists_and_left, and_true, true_and, decide_eq_true_eq, reduceCtorEq, decide_false, decide_true, Bool.not_false, Bool.not_true, if_true, if_false, Bool.false_eq_true, Nat.reduceAdd, Nat.reduceSub, Bool.not_eq_true', decide_eq_false_iff_not, not_true_eq_false, not_false_eq_true]
    refine ⟨cdiv (by omega) (by omega), cdiv (by omega) (by omega), _, _, rfl, ?_⟩
    simp only [tCompSet, tRaise, tIsi, tSeq, tAsg, gName, tOp, tUn, tVar, tC, tTest, tB, tIf, tIfS, tAnd, tOr, tNot, tAndV, tOrV, tNotV, tRet, tRetN, tNext, tDrop, tCB, tCons, tNil, tBM, tBM0, tCall, tLst, tTup, tSl, tPart, tNoPart, tIsN, tNotN, tYes, tBreak, tCont, rI0, rI, rU, rEq, rNe, L2.start, compSt, List.map_cons, List.map_nil, List.length_cons, List.length_nil, List.replicate_succ, List.replicate_zero, List.cons_append, List.nil_append, List.append_nil, List.getElem?_cons_zero, List.getElem?_cons_succ, List.set_cons_zero, List.set_cons_succ, Option.some.injEq, Option.join_some, V.int.injEq, V.str.injEq, V.bl.injEq, V.ref.injEq, txt_inj, exists_eq_left', exists_eq_left, exists_and_left, and_true, true_and, decide_eq_true_eq, reduceCtorEq, decide_false, decide_true, Bool.not_false, Bool.not_true, if_true, if_false, Bool.false_eq_true, Nat.reduceAdd, Nat.reduceSub, Bool.not_eq_true', decide_eq_false_iff_not, not_true_eq_false, not_false_eq_true]
    have g1 : ((M : Int) - 1 - ((e - 97 : Nat) : Int)) / (L : Int) = gI L M e := rfl
    have g2 : ((A : Int) - 1 - ((e - 97 : Nat) : Int)) / (L : Int) = gI L A e := rfl
    rw [g1, g2]
    have hmono : gI L A e ≤ gI L M e := by
      unfold gI
      exact Int.ediv_le_ediv (by omega) (by omega)
    have emax : (if gI L M e - gI L A e > 0 then gI L M e - gI L A e else 0) = gI L M e - gI L A e := by
      split <;> omega
    rw [emax]
    exact ⟨_, _, rfl, by omega⟩
  · rintro σ H1 ⟨rfl, t, v5, rfl, ht⟩
    rw [List.length_map, List.drop_length, List.map_nil, List.sum_nil, Int.add_zero] at ht
    simp only [tCompSet, tRaise, tIsi, tSeq, tAsg, gName, tOp, tUn, tVar, tC, tTest, tB, tIf, tIfS, tAnd, tOr, tNot, tAndV, tOrV, tNotV, tRet, tRetN, tNext, tDrop, tCB, tCons, tNil, tBM, tBM0, tCall, tLst, tTup, tSl, tPart, tNoPart, tIsN, tNotN, tYes, tBreak, tCont, rI0, rI, rU, rEq, rNe, L2.start, compSt, List.map_cons, List.map_nil, List.length_cons, List.length_nil, List.replicate_succ, List.replicate_zero, List.cons_append, List.nil_append, List.append_nil, List.getElem?_cons_zero, List.getElem?_cons_succ, List.set_cons_zero, List.set_cons_succ, Option.some.injEq, Option.join_some, V.int.injEq, V.str.injEq, V.bl.injEq, V.ref.injEq, txt_inj, exists_eq_left', exists_eq_left, exists_and_left, and_true, true_and, decide_eq_true_eq, reduceCtorEq, decide_false, decide_true, Bool.not_false, Bool.not_true, if_true, if_false, Bool.false_eq_true, Nat.reduceAdd, Nat.reduceSub, Bool.not_eq_true', decide_eq_false_iff_not, not_true_eq_false, not_false_eq_true]
    rw [ht]
    exact q
theorem read_lroom {K : PySem.W.Frag} {a : Ad} {N : List Str} {vs : List V} {H : Hp} {Q : VK} {E : XK} (hN : N.length = 8) (h : spLRoom K vs H Q E) : rd_room K a { nx := fun _ H' => Q .non H', rt := Q } (L2.start N vs) H := by
  obtain ⟨p, L, h, j, lo, hi, n, rfl, hF, D, M, ok, hn, q⟩ := h
  unfold rd_room L2.start
  rw [hN]
  have hl2 := D.l2
  have hl26 := D.l26
  have hL0 : 0 < L := by omega
  have hA := ahead_ge n hL0 M ok
  have hlens := M.lens
  refine seq_set fun c hc => ?_
  simp only [tCompSet, tRaise, tIsi, tSeq, tAsg, gName, tOp, tUn, tVar, tC, tTest, tB, tIf, tIfS, tAnd, tOr, tNot, tAndV, tOrV, tNotV, tRet, tRetN, tNext, tDrop, tCB, tCons, tNil, tBM, tBM0, tCall, tLst, tTup, tSl, tPart, tNoPart, tIsN, tNotN, tYes, tBreak, tCont, rI0, rI, rU, rEq, rNe, L2.start, compSt, List.map_cons, List.map_nil, List.length_cons, List.length_nil, List.replicate_succ, List.replicate_zero, List.cons_append, List.nil_append, List.append_nil, List.getElem?_cons_zero, List.getElem?_cons_succ, List.set_cons_zero, List.set_cons_succ, Option.some.injEq, Option.join_some, V.int.injEq, V.str.injEq, V.bl.injEq, V.ref.injEq, txt_inj, exists_eq_left', exists_eq_left, exists_and_left, and_true, true_and, decide_eq_true_eq, reduceCtorEq, decide_false, decide_true, Bool.not_false, Bool.not_true, if_true, if_false, Bool.false_eq_true, Nat.reduceAdd, Nat.reduceSub, Bool.not_eq_true', decide_eq_false_iff_not, not_true_eq_false, not_false_eq_true]
  refine hc _ _ ?_
  refine seq_any fun c hc => ?_
  suffices main : c [some (.int L), some (.ref p), some (oV lo), some (oV hi), some (.int n), some (.int (valO L lo n + 1 : Nat)), none, none] H by
    cases lo with
    | none =>
      simp only [oV, tCompSet, tRaise, tIsi, tSeq, tAsg, gName, tOp, tUn, tVar, tC, tTest, tB, tIf, tIfS, tAnd, tOr, tNot, tAndV, tOrV, tNotV, tRet, tRetN, tNext, tDrop, tCB, tCons, tNil, tBM, tBM0, tCall, tLst, tTup, tSl, tPart, tNoPart, tIsN, tNotN, tYes, tBreak, tCont, rI0, rI, rU, rEq, rNe, L2.start, compSt, List.map_cons, List.map_nil, List.length_cons, List.length_nil, List.replicate_succ, List.replicate_zero, List.cons_append, List.nil_append, List.append_nil, List.getElem?_cons_zero, List.getElem?_cons_succ, List.set_cons_zero, List.set_cons_succ, Option.some.injEq, Option.join_some, V.int.injEq, V.str.injEq, V.bl.injEq, V.ref.injEq, txt_inj, exists_eq_left', exists_eq_left, exists_and_left, and_true, true_and, decide_eq_true_eq, reduceCtorEq, decide_false, decide_true, Bool.not_false, Bool.not_true, if_true, if_false, Bool.false_eq_true, Nat.reduceAdd, Nat.reduceSub, Bool.not_eq_true', decide_eq_false_iff_not, not_true_eq_false, not_false_eq_true]
      exact main
    | some l =>
      obtain ⟨ml, zl⟩ := M.mlo l rfl
      simp only [oV, tCompSet, tRaise, tIsi, tSeq, tAsg, gName, tOp, tUn, tVar, tC, tTest, tB, tIf, tIfS, tAnd, tOr, tNot, tAndV, tOrV, tNotV, tRet, tRetN, tNext, tDrop, tCB, tCons, tNil, tBM, tBM0, tCall, tLst, tTup, tSl, tPart, tNoPart, tIsN, tNotN, tYes, tBreak, tCont, rI0, rI, rU, rEq, rNe, L2.start, compSt, List.map_cons, List.map_nil, List.length_cons, List.length_nil, List.replicate_succ, List.replicate_zero, List.cons_append, List.nil_append, List.append_nil, List.getElem?_cons_zero, List.getElem?_cons_succ, List.set_cons_zero, List.set_cons_succ, Option.some.injEq, Option.join_some, V.int.injEq, V.str.injEq, V.bl.injEq, V.ref.injEq, txt_inj, exists_eq_left', exists_eq_left, exists_and_left, and_true, true_and, decide_eq_true_eq, reduceCtorEq, decide_false, decide_true, Bool.not_false, Bool.not_true, if_true, if_false, Bool.false_eq_true, Nat.reduceAdd, Nat.reduceSub, Bool.not_eq_true', decide_eq_false_iff_not, not_true_eq_false, not_false_eq_true]
      exact ⟨L, l, n, rfl, hl26, ml.ls.mono hl26, by omega, by omega, _, rfl, main⟩
  refine hc _ _ ?_
  refine seq_set fun c hc => ?_
  simp only [tCompSet, tRaise, tIsi, tSeq, tAsg, gName, tOp, tUn, tVar, tC, tTest, tB, tIf, tIfS, tAnd, tOr, tNot, tAndV, tOrV, tNotV, tRet, tRetN, tNext, tDrop, tCB, tCons, tNil, tBM, tBM0, tCall, tLst, tTup, tSl, tPart, tNoPart, tIsN, tNotN, tYes, tBreak, tCont, rI0, rI, rU, rEq, rNe, L2.start, compSt, List.map_cons, List.map_nil, List.length_cons, List.length_nil, List.replicate_succ, List.replicate_zero, List.cons_append, List.nil_append, List.append_nil, List.getElem?_cons_zero, List.getElem?_cons_succ, List.set_cons_zero, List.set_cons_succ, Option.some.injEq, Option.join_some, V.int.injEq, V.str.injEq, V.bl.injEq, V.ref.injEq, txt_inj, exists_eq_left', exists_eq_left, exists_and_left, and_true, true_and, decide_eq_true_eq, reduceCtorEq, decide_false, decide_true, Bool.not_false, Bool.not_true, if_true, if_false, Bool.false_eq_true, Nat.reduceAdd, Nat.reduceSub, Bool.not_eq_true', decide_eq_false_iff_not, not_true_eq_false, not_false_eq_true]
  refine hc _ _ ?_
  refine seq_any fun c hc => ?_
  simp only [tCompSet, tRaise, tIsi, tSeq, tAsg, gName, tOp, tUn, tVar, tC, tTest, tB, tIf, tIfS, tAnd, tOr, tNot, tAndV, tOrV, tNotV, tRet, tRetN, tNext, tDrop, tCB, tCons, tNil, tBM, tBM0, tCall, tLst, tTup, tSl, tPart, tNoPart, tIsN, tNotN, tYes, tBreak, tCont, rI0, rI, rU, rEq, rNe, L2.start, compSt, List.map_cons, List.map_nil, List.length_cons, List.length_nil, List.replicate_succ, List.replicate_zero, List.cons_append, List.nil_append, List.append_nil, List.getElem?_cons_zero, List.getElem?_cons_succ, List.set_cons_zero, List.set_cons_succ, Option.some.injEq, Option.join_some, V.int.injEq, V.str.injEq, V.bl.injEq, V.ref.injEq, txt_inj, exists_eq_left', exists_eq_left, exists_and_left, and_true, true_and, decide_eq_true_eq, reduceCtorEq, decide_false, decide_true, Bool.not_false, Bool.not_true, if_true, if_false, Bool.false_eq_true, Nat.reduceAdd, Nat.reduceSub, Bool.not_eq_true', decide_eq_false_iff_not, not_true_eq_false, not_false_eq_true]
  refine for_r1 (j := n) (fun Q h => ⟨_, rfl, h⟩) (by omega) (by omega) (fun i σ H' => H' = H ∧ ∃ v7, σ = [some (.int L), some (.ref p), some (oV lo), some (oV hi), some (.int n), some (.int (valO L lo n + 1 : Nat)), some (.int (L ^ i : Nat)), v7]) ⟨rfl, _, rfl⟩ ?_ ?_
  · rintro i σ H1 hi ⟨rfl, v7, rfl⟩
    simp only [tCompSet, tRaise, tIsi, tSeq, tAsg, gName, tOp, tUn, tVar, tC, tTest, tB, tIf, tIfS, tAnd, tOr, tNot, tAndV, tOrV, tNotV, tRet, tRetN, tNext, tDrop, tCB, tCons, tNil, tBM, tBM0, tCall, tLst, tTup, tSl, tPart, tNoPart, tIsN, tNotN, tYes, tBreak, tCont, rI0, rI, rU, rEq, rNe, L2.start, compSt, List.map_cons, List.map_nil, List.length_cons, List.length_nil, List.replicate_succ, List.replicate_zero, List.cons_append, List.nil_append, List.append_nil, List.getElem?_cons_zero, List.getElem?_cons_succ, List.set_cons_zero, List.set_cons_succ, Option.some.injEq, Option.join_some, V.int.injEq, V.str.injEq, V.bl.injEq, V.ref.injEq, txt_inj, exists_eq_left', exists_eq_left, exists_and_left, and_true, true_and, decide_eq_true_eq, reduceCtorEq, decide_false, decide_true, Bool.not_false, Bool.not_true, if_true, if_false, Bool.false_eq_true, Nat.reduceAdd, Nat.reduceSub, Bool.not_eq_true', decide_eq_false_iff_not, not_true_eq_false, not_false_eq_true]
    exact ⟨mulB_r (by omega) (by omega), some (.int i), by rw [Nat.pow_succ, Int.natCast_mul]⟩
  · rintro σ H1 ⟨rfl, v7, rfl⟩
    rw [Int.toNat_natCast]
    refine hc _ _ ?_
    refine seq_any fun c hc => ?_
    suffices main : c [some (.int L), some (.ref p), some (oV lo), some (oV hi), some (.int n), some (.int (valO L lo n + 1 : Nat)), some (.int (aheadN hi (highO L hi n) n : Nat)), v7] H1 by
      cases hi with
      | none =>
        simp only [oV, tCompSet, tRaise, tIsi, tSeq, tAsg, gName, tOp, tUn, tVar, tC, tTest, tB, tIf, tIfS, tAnd, tOr, tNot, tAndV, tOrV, tNotV, tRet, tRetN, tNext, tDrop, tCB, tCons, tNil, tBM, tBM0, tCall, tLst, tTup, tSl, tPart, tNoPart, tIsN, tNotN, tYes, tBreak, tCont, rI0, rI, rU, rEq, rNe, L2.start, compSt, List.map_cons, List.map_nil, List.length_cons, List.length_nil, List.replicate_succ, List.replicate_zero, List.cons_append, List.nil_append, List.append_nil, List.getElem?_cons_zero, List.getElem?_cons_succ, List.set_cons_zero, List.set_cons_succ, Option.some.injEq, Option.join_some, V.int.injEq, V.str.injEq, V.bl.injEq, V.ref.injEq, txt_inj, exists_eq_left', exists_eq_left, exists_and_left, and_true, true_and, decide_eq_true_eq, reduceCtorEq, decide_false, decide_true, Bool.not_false, Bool.not_true, if_true, if_false, Bool.false_eq_true, Nat.reduceAdd, Nat.reduceSub, Bool.not_eq_true', decide_eq_false_iff_not, not_true_eq_false, not_false_eq_true]
        exact main
      | some u =>
        obtain ⟨mu, zu⟩ := M.mhi u rfl
        simp only [oV, tCompSet, tRaise, tIsi, tSeq, tAsg, gName, tOp, tUn, tVar, tC, tTest, tB, tIf, tIfS, tAnd, tOr, tNot, tAndV, tOrV, tNotV, tRet, tRetN, tNext, tDrop, tCB, tCons, tNil, tBM, tBM0, tCall, tLst, tTup, tSl, tPart, tNoPart, tIsN, tNotN, tYes, tBreak, tCont, rI0, rI, rU, rEq, rNe, L2.start, compSt, List.map_cons, List.map_nil, List.length_cons, List.length_nil, List.replicate_succ, List.replicate_zero, List.cons_append, List.nil_append, List.append_nil, List.getElem?_cons_zero, List.getElem?_cons_succ, List.set_cons_zero, List.set_cons_succ, Option.some.injEq, Option.join_some, V.int.injEq, V.str.injEq, V.bl.injEq, V.ref.injEq, txt_inj, exists_eq_left', exists_eq_left, exists_and_left, and_true, true_and, decide_eq_true_eq, reduceCtorEq, decide_false, decide_true, Bool.not_false, Bool.not_true, if_true, if_false, Bool.false_eq_true, Nat.reduceAdd, Nat.reduceSub, Bool.not_eq_true', decide_eq_false_iff_not, not_true_eq_false, not_false_eq_true]
        refine ⟨L, u, n, rfl, hl26, mu.ls.mono hl26, by omega, by omega, ?_⟩
        refine lenS_go (by omega) ⟨_, rfl, ?_⟩
        refine .inr ⟨_, rfl, ?_⟩
        have ea : aheadN (some u) (highO L (some u) n) n = if n < u.length then val L u n + 1 else val L u n := rfl
        rw [ea] at main
        by_cases z : n < u.length
        · rw [if_pos z] at main
          rw [decide_eq_true (show (n : Int) < (u.length : Int) by omega)]
          exact ⟨_, rfl, 1, rfl, main⟩
        · rw [if_neg z] at main
          rw [decide_eq_false (show ¬ (n : Int) < (u.length : Int) by omega)]
          refine ⟨_, rfl, 0, rfl, ?_⟩
          rw [Int.add_zero]
          exact main
    refine hc _ _ ?_
    simp only [tCompSet, tRaise, tIsi, tSeq, tAsg, gName, tOp, tUn, tVar, tC, tTest, tB, tIf, tIfS, tAnd, tOr, tNot, tAndV, tOrV, tNotV, tRet, tRetN, tNext, tDrop, tCB, tCons, tNil, tBM, tBM0, tCall, tLst, tTup, tSl, tPart, tNoPart, tIsN, tNotN, tYes, tBreak, tCont, rI0, rI, rU, rEq, rNe, L2.start, compSt, List.map_cons, List.map_nil, List.length_cons, List.length_nil, List.replicate_succ, List.replicate_zero, List.cons_append, List.nil_append, List.append_nil, List.getElem?_cons_zero, List.getElem?_cons_succ, List.set_cons_zero, List.set_cons_succ, Option.some.injEq, Option.join_some, V.int.injEq, V.str.injEq, V.bl.injEq, V.ref.injEq, txt_inj, exists_eq_left', exists_eq_left, exists_and_left, and_true, true_and, decide_eq_true_eq, reduceCtorEq, decide_false, decide_true, Bool.not_false, Bool.not_true, if_true, if_false, Bool.false_eq_true, Nat.reduceAdd, Nat.reduceSub, Bool.not_eq_true', decide_eq_false_iff_not, not_true_eq_false, not_false_eq_true]
    exact ⟨p, L, h, j, _, _, rfl, hF, D, hA, by decide, fun r hr => q r hr⟩
theorem read_mark {K : PySem.W.Frag} {a : Ad} {N : List Str} {vs : List V} {H : Hp} {Q : VK} {E : XK} (hN : N.length = 6) (h : spMark K vs H Q E) : rd_mark K a { nx := fun _ H' => Q .non H', rt := Q } (L2.start N vs) H := by
  obtain ⟨sc, ns, b, L, rfl, hS, hl, hb0, hb1, hL, hL4, q⟩ := h
  unfold rd_mark L2.start
  rw [hN]
  simp only [tCompSet, tRaise, tIsi, tSeq, tAsg, gName, tOp, tUn, tVar, tC, tTest, tB, tIf, tIfS, tAnd, tOr, tNot, tAndV, tOrV, tNotV, tRet, tRetN, tNext, tDrop, tCB, tCons, tNil, tBM, tBM0, tCall, tLst, tTup, tSl, tPart, tNoPart, tIsN, tNotN, tYes, tBreak, tCont, rI0, rI, rU, rEq, rNe, L2.start, compSt, List.map_cons, List.map_nil, List.length_cons, List.length_nil, List.replicate_succ, List.replicate_zero, List.cons_append, List.nil_append, List.append_nil, List.getElem?_cons_zero, List.getElem?_cons_succ, List.set_cons_zero, List.set_cons_succ, Option.some.injEq, Option.join_some, V.int.injEq, V.str.injEq, V.bl.injEq, V.ref.injEq, txt_inj, exists_eq_left', exists_eq_left, exists_and_left, and_true, true_and, decide_eq_true_eq, reduceCtorEq, decide_false, decide_true, Bool.not_false, Bool.not_true, if_true, if_false, Bool.false_eq_true, Nat.reduceAdd, Nat.reduceSub, Bool.not_eq_true', decide_eq_false_iff_not, not_true_eq_false, not_false_eq_true]
  refine for_rq (C := fun j => 0 ≤ j ∧ j < 6) (fun Q h => ?_) (fun j hj => ⟨by omega, by omega⟩) fun j hj =>
    ⟨fun i σ H' => H' = H ∧ ∃ t v5, σ = [some (.ref sc), some (.int b), some (.int L), some (.str (txt ABC)), some (.str (txt t)), v5] ∧ t.length = i ∧ i ≤ 5 ∧ Ls L t, ⟨rfl, [], _, rfl, rfl, by decide, Ls.nil L⟩, ?_, ?_⟩
  · simp only [tCompSet, tRaise, tIsi, tSeq, tAsg, gName, tOp, tUn, tVar, tC, tTest, tB, tIf, tIfS, tAnd, tOr, tNot, tAndV, tOrV, tNotV, tRet, tRetN, tNext, tDrop, tCB, tCons, tNil, tBM, tBM0, tCall, tLst, tTup, tSl, tPart, tNoPart, tIsN, tNotN, tYes, tBreak, tCont, rI0, rI, rU, rEq, rNe, L2.start, compSt, List.map_cons, List.map_nil, List.length_cons, List.length_nil, List.replicate_succ, List.replicate_zero, List.cons_append, List.nil_append, List.append_nil, List.getElem?_cons_zero, List.getElem?_cons_succ, List.set_cons_zero, List.set_cons_succ, Option.some.injEq, Option.join_some, V.int.injEq, V.str.injEq, V.bl.injEq, V.ref.injEq, txt_inj, exists_eq_left', exists_eq_left, exists_and_left, and_true, true_and, decide_eq_true_eq, reduceCtorEq, decide_false, decide_true, Bool.not_false, Bool.not_true, if_true, if_false, Bool.false_eq_true, Nat.reduceAdd, Nat.reduceSub, Bool.not_eq_true', decide_eq_false_iff_not, not_true_eq_false, not_false_eq_true]
    exact ⟨sc, ns, _, _, rfl, hS, hl, by omega, by omega, by decide, fun r h0 h1 => h r ⟨h0, h1⟩⟩
  · rintro i σ H1 hi ⟨rfl, t, v5, rfl, htl, hi4, ht⟩
    simp only [tCompSet, tRaise, tIsi, tSeq, tAsg, gName, tOp, tUn, tVar, tC, tTest, tB, tIf, tIfS, tAnd, tOr, tNot, tAndV, tOrV, tNotV, tRet, tRetN, tNext, tDrop, tCB, tCons, tNil, tBM, tBM0, tCall, tLst, tTup, tSl, tPart, tNoPart, tIsN, tNotN, tYes, tBreak, tCont, rI0, rI, rU, rEq, rNe, L2.start, compSt, List.map_cons, List.map_nil, List.length_cons, List.length_nil, List.replicate_succ, List.replicate_zero, List.cons_append, List.nil_append, List.append_nil, List.getElem?_cons_zero, List.getElem?_cons_succ, List.set_cons_zero, List.set_cons_succ, Option.some.injEq, Option.join_some, V.int.injEq, V.str.injEq, V.bl.injEq, V.ref.injEq, txt_inj, exists_eq_left', exists_eq_left, exists_and_left, and_true, true_and, decide_eq_true_eq, reduceCtorEq, decide_false, decide_true, Bool.not_false, Bool.not_true, if_true, if_false, Bool.false_eq_true, Nat.reduceAdd, Nat.reduceSub, Bool.not_eq_true', decide_eq_false_iff_not, not_true_eq_false, not_false_eq_true]
    refine ⟨sc, ns, _, _, rfl, hS, hl, by omega, by omega, by omega, fun r h0 h1 => ?_⟩
    refine ixABC_go h0 (by omega) (addS_go (by simp only [List.length_cons, List.length_nil]; omega) ⟨rfl, t ++ [97 + r.toNat], _, rfl, by simp [htl], by omega, ht.app fun c hc => ?_⟩)
    rw [List.mem_singleton.mp hc]; omega
  · rintro σ H1 ⟨rfl, t, v5, rfl, htl, hi4, ht⟩
    simp only [tCompSet, tRaise, tIsi, tSeq, tAsg, gName, tOp, tUn, tVar, tC, tTest, tB, tIf, tIfS, tAnd, tOr, tNot, tAndV, tOrV, tNotV, tRet, tRetN, tNext, tDrop, tCB, tCons, tNil, tBM, tBM0, tCall, tLst, tTup, tSl, tPart, tNoPart, tIsN, tNotN, tYes, tBreak, tCont, rI0, rI, rU, rEq, rNe, L2.start, compSt, List.map_cons, List.map_nil, List.length_cons, List.length_nil, List.replicate_succ, List.replicate_zero, List.cons_append, List.nil_append, List.append_nil, List.getElem?_cons_zero, List.getElem?_cons_succ, List.set_cons_zero, List.set_cons_succ, Option.some.injEq, Option.join_some, V.int.injEq, V.str.injEq, V.bl.injEq, V.ref.injEq, txt_inj, exists_eq_left', exists_eq_left, exists_and_left, and_true, true_and, decide_eq_true_eq, reduceCtorEq, decide_false, decide_true, Bool.not_false, Bool.not_true, if_true, if_false, Bool.false_eq_true, Nat.reduceAdd, Nat.reduceSub, Bool.not_eq_true', decide_eq_false_iff_not, not_true_eq_false, not_false_eq_true]
    refine ⟨sc, ns, _, _, rfl, hS, hl, by omega, by omega, by omega, fun r h0 h1 => ?_⟩
    simp only [tCompSet, tRaise, tIsi, tSeq, tAsg, gName, tOp, tUn, tVar, tC, tTest, tB, tIf, tIfS, tAnd, tOr, tNot, tAndV, tOrV, tNotV, tRet, tRetN, tNext, tDrop, tCB, tCons, tNil, tBM, tBM0, tCall, tLst, tTup, tSl, tPart, tNoPart, tIsN, tNotN, tYes, tBreak, tCont, rI0, rI, rU, rEq, rNe, L2.start, compSt, List.map_cons, List.map_nil, List.length_cons, List.length_nil, List.replicate_succ, List.replicate_zero, List.cons_append, List.nil_append, List.append_nil, List.getElem?_cons_zero, List.getElem?_cons_succ, List.set_cons_zero, List.set_cons_succ, Option.some.injEq, Option.join_some, V.int.injEq, V.str.injEq, V.bl.injEq, V.ref.injEq, txt_inj, exists_eq_left', exists_eq_left, exists_and_left, and_true, true_and, decide_eq_true_eq, reduceCtorEq, decide_false, decide_true, Bool.not_false, Bool.not_true, if_true, if_false, Bool.false_eq_true, Nat.reduceAdd, Nat.reduceSub, Bool.not_eq_true', decide_eq_false_iff_not, not_true_eq_false, not_false_eq_true]
    refine ixABC_go (i := 1 + r) (by omega) (by omega) (addS_go (by simp only [List.length_cons, List.length_nil]; omega) (q _ ⟨ht.app fun c hc => ?_, Na.app (Na.one (show 97 + (1 + r).toNat ≠ 97 by omega)) (by simp), by simp⟩ ?_))
    · rw [List.mem_singleton.mp hc]; omega
    · rw [List.length_append]; simp only [List.length_cons, List.length_nil]; omega
theorem pair_ok {L : Nat} {one oth : List Nat} (m1 : Mark L one) (z1 : one.length ≤ 1000) (mo : Mark L oth) (zo : oth.length ≤ 1000) : MarksOk L (some (if oth < one then oth else one)) (some (if one < oth then oth else one)) ∧ LeOk (some (if oth < one then oth else one)) (some (if one < oth then oth else one)) := by
  refine ⟨⟨?_, ?_⟩, ?_⟩
  · rintro m e
    cases e
    split
    · exact ⟨mo, zo⟩
    · exact ⟨m1, z1⟩
  · rintro m e
    cases e
    split
    · exact ⟨mo, zo⟩
    · exact ⟨m1, z1⟩
  · rintro l h e1 e2
    cases e1
    cases e2
    by_cases h1 : oth < one <;> by_cases h2 : one < oth
    · rw [if_pos h1, if_pos h2]; exact .inr rfl
    · rw [if_pos h1, if_neg h2]; exact .inl h1
    · rw [if_neg h1, if_pos h2]; exact .inl h2
    · rw [if_neg h1, if_neg h2]; exact .inr rfl
theorem read_pair {K : PySem.W.Frag} {a : Ad} {N : List Str} {vs : List V} {H : Hp} {Q : VK} {E : XK} (hN : N.length = 5) (h : spPair K vs H Q E) : rd_pair K a { nx := fun _ H' => Q .non H', rt := Q } (L2.start N vs) H := by
  obtain ⟨sc, ns, L, rfl, hS, hl, hL, hL26, q⟩ := h
  unfold rd_pair L2.start
  rw [hN]
  refine seq_set fun c hc => ?_
  simp only [tCompSet, tRaise, tIsi, tSeq, tAsg, gName, tOp, tUn, tVar, tC, tTest, tB, tIf, tIfS, tAnd, tOr, tNot, tAndV, tOrV, tNotV, tRet, tRetN, tNext, tDrop, tCB, tCons, tNil, tBM, tBM0, tCall, tLst, tTup, tSl, tPart, tNoPart, tIsN, tNotN, tYes, tBreak, tCont, rI0, rI, rU, rEq, rNe, L2.start, compSt, List.map_cons, List.map_nil, List.length_cons, List.length_nil, List.replicate_succ, List.replicate_zero, List.cons_append, List.nil_append, List.append_nil, List.getElem?_cons_zero, List.getElem?_cons_succ, List.set_cons_zero, List.set_cons_succ, Option.some.injEq, Option.join_some, V.int.injEq, V.str.injEq, V.bl.injEq, V.ref.injEq, txt_inj, exists_eq_left', exists_eq_left, exists_and_left, and_true, true_and, decide_eq_true_eq, reduceCtorEq, decide_false, decide_true, Bool.not_false, Bool.not_true, if_true, if_false, Bool.false_eq_true, Nat.reduceAdd, Nat.reduceSub, Bool.not_eq_true', decide_eq_false_iff_not, not_true_eq_false, not_false_eq_true]
  refine ⟨sc, ns, _, L, rfl, hS, hl, by decide, by decide, hL, hL26, fun one m1 z1 => hc _ _ ?_⟩
  refine seq_set fun c hc => ?_
  simp only [tCompSet, tRaise, tIsi, tSeq, tAsg, gName, tOp, tUn, tVar, tC, tTest, tB, tIf, tIfS, tAnd, tOr, tNot, tAndV, tOrV, tNotV, tRet, tRetN, tNext, tDrop, tCB, tCons, tNil, tBM, tBM0, tCall, tLst, tTup, tSl, tPart, tNoPart, tIsN, tNotN, tYes, tBreak, tCont, rI0, rI, rU, rEq, rNe, L2.start, compSt, List.map_cons, List.map_nil, List.length_cons, List.length_nil, List.replicate_succ, List.replicate_zero, List.cons_append, List.nil_append, List.append_nil, List.getElem?_cons_zero, List.getElem?_cons_succ, List.set_cons_zero, List.set_cons_succ, Option.some.injEq, Option.join_some, V.int.injEq, V.str.injEq, V.bl.injEq, V.ref.injEq, txt_inj, exists_eq_left', exists_eq_left, exists_and_left, and_true, true_and, decide_eq_true_eq, reduceCtorEq, decide_false, decide_true, Bool.not_false, Bool.not_true, if_true, if_false, Bool.false_eq_true, Nat.reduceAdd, Nat.reduceSub, Bool.not_eq_true', decide_eq_false_iff_not, not_true_eq_false, not_false_eq_true]
  refine ⟨sc, ns, _, L, rfl, hS, hl, by decide, by decide, hL, hL26, fun other m2 z2 => hc _ _ ?_⟩
  refine seq_set fun c hc => ?_
  simp only [tCompSet, tRaise, tIsi, tSeq, tAsg, gName, tOp, tUn, tVar, tC, tTest, tB, tIf, tIfS, tAnd, tOr, tNot, tAndV, tOrV, tNotV, tRet, tRetN, tNext, tDrop, tCB, tCons, tNil, tBM, tBM0, tCall, tLst, tTup, tSl, tPart, tNoPart, tIsN, tNotN, tYes, tBreak, tCont, rI0, rI, rU, rEq, rNe, L2.start, compSt, List.map_cons, List.map_nil, List.length_cons, List.length_nil, List.replicate_succ, List.replicate_zero, List.cons_append, List.nil_append, List.append_nil, List.getElem?_cons_zero, List.getElem?_cons_succ, List.set_cons_zero, List.set_cons_succ, Option.some.injEq, Option.join_some, V.int.injEq, V.str.injEq, V.bl.injEq, V.ref.injEq, txt_inj, exists_eq_left', exists_eq_left, exists_and_left, and_true, true_and, decide_eq_true_eq, reduceCtorEq, decide_false, decide_true, Bool.not_false, Bool.not_true, if_true, if_false, Bool.false_eq_true, Nat.reduceAdd, Nat.reduceSub, Bool.not_eq_true', decide_eq_false_iff_not, not_true_eq_false, not_false_eq_true]
  refine ⟨sc, ns, _, _, rfl, hS, hl, by decide, by decide, by decide, fun way hw0 hw1 => hc _ _ ?_⟩
  clear hc c
  have h1 : 0 < one.length := List.length_pos_iff.mpr m1.ne
  have tl : ∀ oth, Mark L oth → oth.length ≤ 100 → (tSeq (tIfS (tTest (tOp rEq (tVar 4) (tC (.int 2)))) (tRet (tTup (tCons (tC .non) (tCons (tC .non) tNil)))) (tNext))
      (tSeq (tIfS (tTest (tOp rEq (tVar 4) (tC (.int 3)))) (tRet (tTup (tCons (tC .non) (tCons (tVar 2) tNil)))) (tNext))
      (tSeq (tIfS (tTest (tOp rEq (tVar 4) (tC (.int 4)))) (tRet (tTup (tCons (tVar 2) (tCons (tC .non) tNil)))) (tNext))
      (tRet (tTup (tCons (tCB rMin2S (tCons (tVar 2) (tCons (tVar 3) tNil))) (tCons (tCB rMax2S (tCons (tVar 2) (tCons (tVar 3) tNil))) tNil))))))) { nx := fun _ H' => Q .non H', rt := Q }
      [some (.ref sc), some (.int L), some (.str (txt one)), some (.str (txt oth)), some (.int way)] H := by
    intro oth mo zo
    refine way_if rfl (fun e c hc => ?_) fun n5 => way_if rfl (fun e c hc => ?_) fun n6 => way_if rfl (fun e c hc => ?_) fun n7 => ?_
    · simp only [tCompSet, tRaise, tIsi, tSeq, tAsg, gName, tOp, tUn, tVar, tC, tTest, tB, tIf, tIfS, tAnd, tOr, tNot, tAndV, tOrV, tNotV, tRet, tRetN, tNext, tDrop, tCB, tCons, tNil, tBM, tBM0, tCall, tLst, tTup, tSl, tPart, tNoPart, tIsN, tNotN, tYes, tBreak, tCont, rI0, rI, rU, rEq, rNe, L2.start, compSt, List.map_cons, List.map_nil, List.length_cons, List.length_nil, List.replicate_succ, List.replicate_zero, List.cons_append, List.nil_append, List.append_nil, List.getElem?_cons_zero, List.getElem?_cons_succ, List.set_cons_zero, List.set_cons_succ, Option.some.injEq, Option.join_some, V.int.injEq, V.str.injEq, V.bl.injEq, V.ref.injEq, txt_inj, exists_eq_left', exists_eq_left, exists_and_left, and_true, true_and, decide_eq_true_eq, reduceCtorEq, decide_false, decide_true, Bool.not_false, Bool.not_true, if_true, if_false, Bool.false_eq_true, Nat.reduceAdd, Nat.reduceSub, Bool.not_eq_true', decide_eq_false_iff_not, not_true_eq_false, not_false_eq_true]
      exact ⟨by decide, fun p hp => q p none none hp ⟨fun _ e => (nomatch e), fun _ e => (nomatch e)⟩ fun _ _ e => (nomatch e)⟩
    · simp only [tCompSet, tRaise, tIsi, tSeq, tAsg, gName, tOp, tUn, tVar, tC, tTest, tB, tIf, tIfS, tAnd, tOr, tNot, tAndV, tOrV, tNotV, tRet, tRetN, tNext, tDrop, tCB, tCons, tNil, tBM, tBM0, tCall, tLst, tTup, tSl, tPart, tNoPart, tIsN, tNotN, tYes, tBreak, tCont, rI0, rI, rU, rEq, rNe, L2.start, compSt, List.map_cons, List.map_nil, List.length_cons, List.length_nil, List.replicate_succ, List.replicate_zero, List.cons_append, List.nil_append, List.append_nil, List.getElem?_cons_zero, List.getElem?_cons_succ, List.set_cons_zero, List.set_cons_succ, Option.some.injEq, Option.join_some, V.int.injEq, V.str.injEq, V.bl.injEq, V.ref.injEq, txt_inj, exists_eq_left', exists_eq_left, exists_and_left, and_true, true_and, decide_eq_true_eq, reduceCtorEq, decide_false, decide_true, Bool.not_false, Bool.not_true, if_true, if_false, Bool.false_eq_true, Nat.reduceAdd, Nat.reduceSub, Bool.not_eq_true', decide_eq_false_iff_not, not_true_eq_false, not_false_eq_true]
      exact ⟨by decide, fun p hp => q p none (some one) hp ⟨fun _ e => (nomatch e), fun m e => (by cases e; exact ⟨m1, by omega⟩)⟩ fun _ _ e => (nomatch e)⟩
    · simp only [tCompSet, tRaise, tIsi, tSeq, tAsg, gName, tOp, tUn, tVar, tC, tTest, tB, tIf, tIfS, tAnd, tOr, tNot, tAndV, tOrV, tNotV, tRet, tRetN, tNext, tDrop, tCB, tCons, tNil, tBM, tBM0, tCall, tLst, tTup, tSl, tPart, tNoPart, tIsN, tNotN, tYes, tBreak, tCont, rI0, rI, rU, rEq, rNe, L2.start, compSt, List.map_cons, List.map_nil, List.length_cons, List.length_nil, List.replicate_succ, List.replicate_zero, List.cons_append, List.nil_append, List.append_nil, List.getElem?_cons_zero, List.getElem?_cons_succ, List.set_cons_zero, List.set_cons_succ, Option.some.injEq, Option.join_some, V.int.injEq, V.str.injEq, V.bl.injEq, V.ref.injEq, txt_inj, exists_eq_left', exists_eq_left, exists_and_left, and_true, true_and, decide_eq_true_eq, reduceCtorEq, decide_false, decide_true, Bool.not_false, Bool.not_true, if_true, if_false, Bool.false_eq_true, Nat.reduceAdd, Nat.reduceSub, Bool.not_eq_true', decide_eq_false_iff_not, not_true_eq_false, not_false_eq_true]
      exact ⟨by decide, fun p hp => q p (some one) none hp ⟨fun m e => (by cases e; exact ⟨m1, by omega⟩), fun _ e => (nomatch e)⟩ fun _ _ _ e => (nomatch e)⟩
    · simp only [tCompSet, tRaise, tIsi, tSeq, tAsg, gName, tOp, tUn, tVar, tC, tTest, tB, tIf, tIfS, tAnd, tOr, tNot, tAndV, tOrV, tNotV, tRet, tRetN, tNext, tDrop, tCB, tCons, tNil, tBM, tBM0, tCall, tLst, tTup, tSl, tPart, tNoPart, tIsN, tNotN, tYes, tBreak, tCont, rI0, rI, rU, rEq, rNe, L2.start, compSt, List.map_cons, List.map_nil, List.length_cons, List.length_nil, List.replicate_succ, List.replicate_zero, List.cons_append, List.nil_append, List.append_nil, List.getElem?_cons_zero, List.getElem?_cons_succ, List.set_cons_zero, List.set_cons_succ, Option.some.injEq, Option.join_some, V.int.injEq, V.str.injEq, V.bl.injEq, V.ref.injEq, txt_inj, exists_eq_left', exists_eq_left, exists_and_left, and_true, true_and, decide_eq_true_eq, reduceCtorEq, decide_false, decide_true, Bool.not_false, Bool.not_true, if_true, if_false, Bool.false_eq_true, Nat.reduceAdd, Nat.reduceSub, Bool.not_eq_true', decide_eq_false_iff_not, not_true_eq_false, not_false_eq_true]
      have pok := pair_ok m1 (by omega) mo (by omega)
      exact ⟨one, oth, rfl, one, oth, rfl, by decide, fun p hp => q p _ _ hp pok.1 pok.2⟩
  refine way_if rfl (fun w0 c hc => ?_) fun w0 => way_if rfl (fun w1 c hc => ?_) fun w1 => tl _ m2 (by omega)
  · simp only [tCompSet, tRaise, tIsi, tSeq, tAsg, gName, tOp, tUn, tVar, tC, tTest, tB, tIf, tIfS, tAnd, tOr, tNot, tAndV, tOrV, tNotV, tRet, tRetN, tNext, tDrop, tCB, tCons, tNil, tBM, tBM0, tCall, tLst, tTup, tSl, tPart, tNoPart, tIsN, tNotN, tYes, tBreak, tCont, rI0, rI, rU, rEq, rNe, L2.start, compSt, List.map_cons, List.map_nil, List.length_cons, List.length_nil, List.replicate_succ, List.replicate_zero, List.cons_append, List.nil_append, List.append_nil, List.getElem?_cons_zero, List.getElem?_cons_succ, List.set_cons_zero, List.set_cons_succ, Option.some.injEq, Option.join_some, V.int.injEq, V.str.injEq, V.bl.injEq, V.ref.injEq, txt_inj, exists_eq_left', exists_eq_left, exists_and_left, and_true, true_and, decide_eq_true_eq, reduceCtorEq, decide_false, decide_true, Bool.not_false, Bool.not_true, if_true, if_false, Bool.false_eq_true, Nat.reduceAdd, Nat.reduceSub, Bool.not_eq_true', decide_eq_false_iff_not, not_true_eq_false, not_false_eq_true]
    refine lenS_go (by omega) ⟨sc, ns, _, _, rfl, hS, hl, by decide, by decide, by omega, fun r r0 r1 => ⟨_, rfl, slTo_go (by omega) r0 (by omega) ?_⟩⟩
    have ht2 : (one.take r.toNat).length ≤ 6 := by rw [List.length_take]; omega
    refine addS_go (by omega) (hc _ _ ?_)
    refine way_if rfl (fun e => absurd e (by omega)) fun _ => ?_
    exact tl _ ⟨Ls.app (m1.ls.sub fun c hc => List.mem_of_mem_take hc) m2.ls, Na.app m2.na m2.ne, by simp [m2.ne]⟩ (by rw [List.length_append]; omega)
  · simp only [tCompSet, tRaise, tIsi, tSeq, tAsg, gName, tOp, tUn, tVar, tC, tTest, tB, tIf, tIfS, tAnd, tOr, tNot, tAndV, tOrV, tNotV, tRet, tRetN, tNext, tDrop, tCB, tCons, tNil, tBM, tBM0, tCall, tLst, tTup, tSl, tPart, tNoPart, tIsN, tNotN, tYes, tBreak, tCont, rI0, rI, rU, rEq, rNe, L2.start, compSt, List.map_cons, List.map_nil, List.length_cons, List.length_nil, List.replicate_succ, List.replicate_zero, List.cons_append, List.nil_append, List.append_nil, List.getElem?_cons_zero, List.getElem?_cons_succ, List.set_cons_zero, List.set_cons_succ, Option.some.injEq, Option.join_some, V.int.injEq, V.str.injEq, V.bl.injEq, V.ref.injEq, txt_inj, exists_eq_left', exists_eq_left, exists_and_left, and_true, true_and, decide_eq_true_eq, reduceCtorEq, decide_false, decide_true, Bool.not_false, Bool.not_true, if_true, if_false, Bool.false_eq_true, Nat.reduceAdd, Nat.reduceSub, Bool.not_eq_true', decide_eq_false_iff_not, not_true_eq_false, not_false_eq_true]
    refine ⟨sc, ns, _, _, rfl, hS, hl, by decide, by decide, by decide, fun r r0 r1 => mulS_go r0 (by omega) (addS_go (by rw [List.length_replicate]; omega) (addS_go (by rw [List.length_append, List.length_replicate]; simp only [List.length_cons, List.length_nil]; omega) (hc _ _ ?_)))⟩
    refine tl _ ⟨Ls.app (Ls.app m1.ls fun c hc => ?_) fun c hc => ?_, Na.app (Na.one (by decide)) (by simp), by simp⟩ (by rw [List.length_append, List.length_append, List.length_replicate]; simp only [List.length_cons, List.length_nil]; omega)
    · rw [(List.mem_replicate.mp hc).2]; omega
    · rw [List.mem_singleton.mp hc]; omega
theorem read_refused {K : PySem.W.Frag} {mg : Str → Option Value} {a : Ad} (T : Tx K mg a) {N : List Str} {vs : List V} {H : Hp} {Q : VK} {E : XK} (hN : N.length = 8) (h : spRefused vs H Q E) : rd_refused K a { nx := fun _ H' => Q .non H', rt := Q } (L2.start N vs) H := by
  obtain ⟨L, h, j, lo, hi, k, rfl, D, M, hk1, hk2, no, q⟩ := h
  unfold rd_refused L2.start
  rw [hN]
  simp only [tTryE, tCallX, tIsX, gSub, eq_self, tCompSet, tRaise, tIsi, tSeq, tAsg, gName, tOp, tUn, tVar, tC, tTest, tB, tIf, tIfS, tAnd, tOr, tNot, tAndV, tOrV, tNotV, tRet, tRetN, tNext, tDrop, tCB, tCons, tNil, tBM, tBM0, tCall, tLst, tTup, tSl, tPart, tNoPart, tIsN, tNotN, tYes, tBreak, tCont, rI0, rI, rU, rEq, rNe, L2.start, compSt, List.map_cons, List.map_nil, List.length_cons, List.length_nil, List.replicate_succ, List.replicate_zero, List.cons_append, List.nil_append, List.append_nil, List.getElem?_cons_zero, List.getElem?_cons_succ, List.set_cons_zero, List.set_cons_succ, Option.some.injEq, Option.join_some, V.int.injEq, V.str.injEq, V.bl.injEq, V.ref.injEq, txt_inj, exists_eq_left', exists_eq_left, exists_and_left, and_true, true_and, decide_eq_true_eq, reduceCtorEq, decide_false, decide_true, Bool.not_false, Bool.not_true, if_true, if_false, Bool.false_eq_true, Nat.reduceAdd, Nat.reduceSub, Bool.not_eq_true', decide_eq_false_iff_not, not_true_eq_false, not_false_eq_true]
  refine ⟨L, h, j, lo, hi, k, rfl, D, M, hk1, hk2, fun z => absurd z no, fun _ => ?_⟩
  refine ⟨a.c_NoRoom, rfl, ⟨⟨_, _, T.x_NoRoom⟩, ⟨_, _, T.x_ShelfError, by decide⟩, T.s_NoRoom_ShelfError⟩, fun ea hea => ?_⟩
  exact ⟨upd_same, q _ (Same.up H hea)⟩
end K07

set_option Elab.async false
set_option linter.all false
set_option maxRecDepth 100000
set_option maxHeartbeats 4000000
namespace K07
open PySem PySem.Spec PyProof.Rows L2 MM
theorem figs_in {L h j w : Nat} (h1 : 97 + w ∈ endsL L h j) : inV (.int (w : Nat)) (figs L h j) = true := by
  unfold inV figs
  rw [List.any_map, List.any_eq_true]
  exact ⟨97 + w, h1, by simp [eqV]⟩
theorem figs_flat (L h j : Nat) : (figs L h j).all flatV = true := by
  unfold figs
  rw [List.all_map, List.all_eq_true]
  intro x _
  rfl
theorem not_in_texts {xs : List (List Nat)} (h : ∀ x ∈ xs, x ≠ []) : inV (.str (txt [])) (xs.map strV) = false := by
  unfold inV
  rw [List.any_map, List.any_eq_false]
  intro x hx
  simp only [Function.comp, eqV, strV]
  simp [txt_inj, h x hx]
theorem texts_flat (xs : List (List Nat)) : (xs.map strV).all flatV = true := by
  rw [List.all_map, List.all_eq_true]
  intro x _
  rfl
theorem run_get {L : Nat} {es : List Nat} {lo hi : Option (List Nat)} {n k i : Nat} (h : i < k) : (runL L es lo hi n k)[i]? = some (low L (runW L es lo hi n k i) n) := by
  unfold runL
  rw [List.getElem?_map, List.getElem?_range h]
  rfl
theorem run_len (L : Nat) (es : List Nat) (lo hi : Option (List Nat)) (n k : Nat) : (runL L es lo hi n k).length = k := by
  unfold runL
  rw [List.length_map, List.length_range]
theorem good_loop {K : PySem.W.Frag} {a : Ad} {Q : VK} {H : Hp} {p pm r : Addr} {L h j n k R : Nat} {lo hi : Option (List Nat)} {v7 : Option V} (hF : SqL K H p (figs L h j)) (hM : SqL K H pm ((runL L (endsL L h j) lo hi n k).map strV))
    (hr : SqT K H r [.int (valO L lo n + 1 : Nat), .int (R : Nat)]) (D : Hands L h j) (M : MarksOk L lo hi) (ok : OkLH lo hi) (hk1 : 1 ≤ k) (hk2 : k ≤ 10000) (LN : LeastB true L (endsL L h j) lo hi k n) (hR : roomI L (endsL L h j) lo hi n = (R : Nat)) (q : Q (.bl true) H) :
    (tSeq (tFor (iRng1 (tCons (tCB (rLenL K) (tCons (tVar 4) tNil)) tNil)) (gName 8) (tSeq (tAsg (tOp (rIxL K) (tVar 4) (tVar 8)) (gName 9))
      (tSeq (tIfS (tOr (tTest (tOp rNe (tCB rLenS (tCons (tVar 9) tNil)) (tVar 5))) (tTest (tOp (rIn K true) (tBM K "str" rIndex (tC (.str (txt ABC))) (tCons (tOp rIxStr (tVar 9) (tOp rSubI (tVar 5) (tC (.int 1)))) tNil)) (tVar 1)))) (tRet (tC (.bl false))) (tNext))
      (tSeq (tIfS (tOr (tAnd (tB (tNotN (tVar 2))) (tNot (tTest (tOp rLtS (tVar 2) (tVar 9))))) (tAnd (tB (tNotN (tVar 3))) (tNot (tTest (tOp rLtS (tVar 9) (tVar 3)))))) (tRet (tC (.bl false))) (tNext))
      (tSeq (tAsg (tCall (spMany K) [] E0 (tCons (tVar 0) (tCons (tVar 1) (tCons (tOp (rIxT K) (tVar 6) (tC (.int 0))) (tCons (tOp rSubI (tCall spLWhole [] E0 (tCons (tVar 0) (tCons (tVar 9) (tCons (tVar 5) tNil)))) (tC (.int 1))) tNil))))) (gName 10))
      (tIfS (tOr (tTest (tOp rNe (tVar 10) (tOp rSubI (tOp rDivI (tOp rMulI (tOp rAddI (tVar 8) (tC (.int 1))) (tOp rAddI (tOp (rIxT K) (tVar 6) (tC (.int 1))) (tC (.int 1)))) (tOp rAddI (tCB (rLenL K) (tCons (tVar 4) tNil)) (tC (.int 1)))) (tC (.int 1))))) (tAnd (tTest (tOp rGtI (tVar 8) (tC (.int 0)))) (tNot (tTest (tOp rLtS (tOp (rIxL K) (tVar 4) (tOp rSubI (tVar 8) (tC (.int 1)))) (tVar 9)))))) (tRet (tC (.bl false))) (tNext)))))))
      (tRet (tC (.bl true)))) { nx := fun _ H' => Q .non H', rt := Q }
      [some (.int L), some (.ref p), some (oV lo), some (oV hi), some (.ref pm), some (.int n), some (.ref r), v7, none, none, none] H := by
  have hl2 := D.l2
  have hl26 := D.l26
  have hL0 : 0 < L := by omega
  have EN := ends_ok (K := L) D.hj D.hh
  have hlen := M.lens
  have hn1 := LN.pos
  have hn : n ≤ 11001 := by have := LN.len; omega
  have hkR : k ≤ R := by have := LN.room; rw [roomB_true, hR] at this; omega
  have hml := run_len L (endsL L h j) lo hi n k
  obtain ⟨n', rfl⟩ : ∃ n', n = n' + 1 := ⟨n - 1, by omega⟩
  simp only [tCompSet, tRaise, tIsi, tSeq, tAsg, gName, tOp, tUn, tVar, tC, tTest, tB, tIf, tIfS, tAnd, tOr, tNot, tAndV, tOrV, tNotV, tRet, tRetN, tNext, tDrop, tCB, tCons, tNil, tBM, tBM0, tCall, tLst, tTup, tSl, tPart, tNoPart, tIsN, tNotN, tYes, tBreak, tCont, rI0, rI, rU, rEq, rNe, L2.start, compSt, List.map_cons, List.map_nil, List.length_cons, List.length_nil, List.replicate_succ, List.replicate_zero, List.cons_append, List.nil_append, List.append_nil, List.getElem?_cons_zero, List.getElem?_cons_succ, List.set_cons_zero, List.set_cons_succ, Option.some.injEq, Option.join_some, V.int.injEq, V.str.injEq, V.bl.injEq, V.ref.injEq, txt_inj, exists_eq_left', exists_eq_left, exists_and_left, and_true, true_and, decide_eq_true_eq, reduceCtorEq, decide_false, decide_true, Bool.not_false, Bool.not_true, if_true, if_false, Bool.false_eq_true, Nat.reduceAdd, Nat.reduceSub, Bool.not_eq_true', decide_eq_false_iff_not, not_true_eq_false, not_false_eq_true]
  refine for_r1 (j := k) (fun Q h => by
    simp only [tCompSet, tRaise, tIsi, tSeq, tAsg, gName, tOp, tUn, tVar, tC, tTest, tB, tIf, tIfS, tAnd, tOr, tNot, tAndV, tOrV, tNotV, tRet, tRetN, tNext, tDrop, tCB, tCons, tNil, tBM, tBM0, tCall, tLst, tTup, tSl, tPart, tNoPart, tIsN, tNotN, tYes, tBreak, tCont, rI0, rI, rU, rEq, rNe, L2.start, compSt, List.map_cons, List.map_nil, List.length_cons, List.length_nil, List.replicate_succ, List.replicate_zero, List.cons_append, List.nil_append, List.append_nil, List.getElem?_cons_zero, List.getElem?_cons_succ, List.set_cons_zero, List.set_cons_succ, Option.some.injEq, Option.join_some, V.int.injEq, V.str.injEq, V.bl.injEq, V.ref.injEq, txt_inj, exists_eq_left', exists_eq_left, exists_and_left, and_true, true_and, decide_eq_true_eq, reduceCtorEq, decide_false, decide_true, Bool.not_false, Bool.not_true, if_true, if_false, Bool.false_eq_true, Nat.reduceAdd, Nat.reduceSub, Bool.not_eq_true', decide_eq_false_iff_not, not_true_eq_false, not_false_eq_true]
    exact lenL_go hM (by rw [List.length_map, hml]; exact h)) (by omega) (by omega)
    (fun i σ H' => H' = H ∧ ∃ v8 v9 v10, σ = [some (.int L), some (.ref p), some (oV lo), some (oV hi), some (.ref pm), some (.int (n' + 1 : Nat)), some (.ref r), v7, v8, v9, v10]) ⟨rfl, _, _, _, rfl⟩ ?_ ?_
  · rintro i σ H1 hi' ⟨rfl, v8, v9, v10, rfl⟩
    have hik : i < k := by omega
    have W := run_at D LN hR hik
    have hg := run_get (L := L) (es := endsL L h j) (lo := lo) (hi := hi) (n := n' + 1) hik
    have hprev : 0 < i → RunAt L (endsL L h j) lo hi (n' + 1) k R (i - 1) (runW L (endsL L h j) lo hi (n' + 1) k (i - 1)) ∧ (runL L (endsL L h j) lo hi (n' + 1) k)[i - 1]? = some (low L (runW L (endsL L h j) lo hi (n' + 1) k (i - 1)) (n' + 1)) := fun h0 => ⟨run_at D LN hR (by omega), run_get (by omega)⟩
    generalize runW L (endsL L h j) lo hi (n' + 1) k i = w at W hg
    generalize runW L (endsL L h j) lo hi (n' + 1) k (i - 1) = w0 at hprev
    have hw : w < L ^ (n' + 1) := Nat.lt_of_lt_of_le W.lt (ahead_le (n' + 1) hL0 M)
    have hm := low_length L w (n' + 1)
    have hmls := low_ls hL0 w (n' + 1)
    have hmod := Nat.mod_lt w hL0
    obtain ⟨o1, o2⟩ := (own_iff hL0 w).mp W.own
    have hval : val L (low L w (n' + 1)) (n' + 1) = w := by rw [low_val_eq hL0, Nat.mod_eq_of_lt hw]
    have hlast := low_last (w := w) (n := n') hL0
    have hin : 97 + w % L ∈ endsL L h j := of_decide_eq_true W.own
    have hlo : ∀ l, lo = some l → l < low L w (n' + 1) := fun l e => by
      rw [low_iff hL0 hw (by omega) (M.mlo l e).1.ls]
      have := W.ge
      rw [e] at this
      exact this
    have hhi : ∀ u, hi = some u → low L w (n' + 1) < u := fun u e => by
      rw [high_iff hL0 hw (M.mhi u e).1.ls (M.mhi u e).1.na]
      have := W.lt
      rw [e] at this
      exact this
    have hlt : 0 < i → low L w0 (n' + 1) < low L w (n' + 1) := fun h0 => by
      obtain ⟨W0, _⟩ := hprev h0
      have hw0 : w0 < L ^ (n' + 1) := Nat.lt_of_lt_of_le W0.lt (ahead_le (n' + 1) hL0 M)
      rw [low_iff hL0 hw (by omega) (low_ls hL0 _ _), low_val_eq hL0, Nat.mod_eq_of_lt hw0]
      have e1 := W.at_
      have e2 := W0.at_
      have r1 := even_rise (i := i - 1) hkR
      rw [show i - 1 + 1 = i by omega] at r1 e2
      have r2 := even_ge (i := i - 1) hkR
      rw [show i - 1 + 1 = i by omega] at r2
      rcases Nat.lt_or_ge w0 w with z | z
      · omega
      · have := ob_mono hL0 EN z
        omega
    rw [List.getLast?_eq_getElem?, hm] at hlast
    have hlast : (low L w (n' + 1))[n']? = some (97 + w % L) := hlast
    generalize low L w (n' + 1) = m at hm hmls hval hlo hhi hlt hg hlast
    refine seq_set fun c hc => ?_
    simp only [tCompSet, tRaise, tIsi, tSeq, tAsg, gName, tOp, tUn, tVar, tC, tTest, tB, tIf, tIfS, tAnd, tOr, tNot, tAndV, tOrV, tNotV, tRet, tRetN, tNext, tDrop, tCB, tCons, tNil, tBM, tBM0, tCall, tLst, tTup, tSl, tPart, tNoPart, tIsN, tNotN, tYes, tBreak, tCont, rI0, rI, rU, rEq, rNe, L2.start, compSt, List.map_cons, List.map_nil, List.length_cons, List.length_nil, List.replicate_succ, List.replicate_zero, List.cons_append, List.nil_append, List.append_nil, List.getElem?_cons_zero, List.getElem?_cons_succ, List.set_cons_zero, List.set_cons_succ, Option.some.injEq, Option.join_some, V.int.injEq, V.str.injEq, V.bl.injEq, V.ref.injEq, txt_inj, exists_eq_left', exists_eq_left, exists_and_left, and_true, true_and, decide_eq_true_eq, reduceCtorEq, decide_false, decide_true, Bool.not_false, Bool.not_true, if_true, if_false, Bool.false_eq_true, Nat.reduceAdd, Nat.reduceSub, Bool.not_eq_true', decide_eq_false_iff_not, not_true_eq_false, not_false_eq_true]
    refine ixL_go hM (by omega) (by rw [Int.toNat_natCast, List.getElem?_map, hg]; rfl) (hc _ _ ?_)
    refine seq_any fun c hc => ?_
    simp only [tCompSet, tRaise, tIsi, tSeq, tAsg, gName, tOp, tUn, tVar, tC, tTest, tB, tIf, tIfS, tAnd, tOr, tNot, tAndV, tOrV, tNotV, tRet, tRetN, tNext, tDrop, tCB, tCons, tNil, tBM, tBM0, tCall, tLst, tTup, tSl, tPart, tNoPart, tIsN, tNotN, tYes, tBreak, tCont, rI0, rI, rU, rEq, rNe, L2.start, compSt, List.map_cons, List.map_nil, List.length_cons, List.length_nil, List.replicate_succ, List.replicate_zero, List.cons_append, List.nil_append, List.append_nil, List.getElem?_cons_zero, List.getElem?_cons_succ, List.set_cons_zero, List.set_cons_succ, Option.some.injEq, Option.join_some, V.int.injEq, V.str.injEq, V.bl.injEq, V.ref.injEq, txt_inj, exists_eq_left', exists_eq_left, exists_and_left, and_true, true_and, decide_eq_true_eq, reduceCtorEq, decide_false, decide_true, Bool.not_false, Bool.not_true, if_true, if_false, Bool.false_eq_true, Nat.reduceAdd, Nat.reduceSub, Bool.not_eq_true', decide_eq_false_iff_not, not_true_eq_false, not_false_eq_true]
    refine lenS_go (by omega) ⟨rfl, ?_⟩
    rw [hm, if_neg (fun z => z rfl)]
    refine ⟨rfl, ixS_go (c := 97 + w % L) (by omega) (by omega) (by rw [show (((n' + 1 : Nat) : Int) - 1).toNat = n' by omega]; exact hlast) (idxABC_go (by omega) (by omega) ?_)⟩
    refine ⟨p, _, rfl, .inl hF, rfl, figs_flat _ _ _, ?_⟩
    rw [show 97 + w % L - 97 = w % L by omega, figs_in hin]
    simp only [tCompSet, tRaise, tIsi, tSeq, tAsg, gName, tOp, tUn, tVar, tC, tTest, tB, tIf, tIfS, tAnd, tOr, tNot, tAndV, tOrV, tNotV, tRet, tRetN, tNext, tDrop, tCB, tCons, tNil, tBM, tBM0, tCall, tLst, tTup, tSl, tPart, tNoPart, tIsN, tNotN, tYes, tBreak, tCont, rI0, rI, rU, rEq, rNe, L2.start, compSt, List.map_cons, List.map_nil, List.length_cons, List.length_nil, List.replicate_succ, List.replicate_zero, List.cons_append, List.nil_append, List.append_nil, List.getElem?_cons_zero, List.getElem?_cons_succ, List.set_cons_zero, List.set_cons_succ, Option.some.injEq, Option.join_some, V.int.injEq, V.str.injEq, V.bl.injEq, V.ref.injEq, txt_inj, exists_eq_left', exists_eq_left, exists_and_left, and_true, true_and, decide_eq_true_eq, reduceCtorEq, decide_false, decide_true, Bool.not_false, Bool.not_true, if_true, if_false, Bool.false_eq_true, Nat.reduceAdd, Nat.reduceSub, Bool.not_eq_true', decide_eq_false_iff_not, not_true_eq_false, not_false_eq_true]
    refine hc _ _ ?_
    refine seq_any fun c hc => ?_
    suffices main : c [some (.int L), some (.ref p), some (oV lo), some (oV hi), some (.ref pm), some (.int (n' + 1 : Nat)), some (.ref r), v7, some (.int i), some (.str (txt m)), v10] H1 by
      cases lo with
      | none =>
        cases hi with
        | none =>
          simp only [oV, tCompSet, tRaise, tIsi, tSeq, tAsg, gName, tOp, tUn, tVar, tC, tTest, tB, tIf, tIfS, tAnd, tOr, tNot, tAndV, tOrV, tNotV, tRet, tRetN, tNext, tDrop, tCB, tCons, tNil, tBM, tBM0, tCall, tLst, tTup, tSl, tPart, tNoPart, tIsN, tNotN, tYes, tBreak, tCont, rI0, rI, rU, rEq, rNe, L2.start, compSt, List.map_cons, List.map_nil, List.length_cons, List.length_nil, List.replicate_succ, List.replicate_zero, List.cons_append, List.nil_append, List.append_nil, List.getElem?_cons_zero, List.getElem?_cons_succ, List.set_cons_zero, List.set_cons_succ, Option.some.injEq, Option.join_some, V.int.injEq, V.str.injEq, V.bl.injEq, V.ref.injEq, txt_inj, exists_eq_left', exists_eq_left, exists_and_left, and_true, true_and, decide_eq_true_eq, reduceCtorEq, decide_false, decide_true, Bool.not_false, Bool.not_true, if_true, if_false, Bool.false_eq_true, Nat.reduceAdd, Nat.reduceSub, Bool.not_eq_true', decide_eq_false_iff_not, not_true_eq_false, not_false_eq_true]
          exact main
        | some u =>
          simp only [oV, tCompSet, tRaise, tIsi, tSeq, tAsg, gName, tOp, tUn, tVar, tC, tTest, tB, tIf, tIfS, tAnd, tOr, tNot, tAndV, tOrV, tNotV, tRet, tRetN, tNext, tDrop, tCB, tCons, tNil, tBM, tBM0, tCall, tLst, tTup, tSl, tPart, tNoPart, tIsN, tNotN, tYes, tBreak, tCont, rI0, rI, rU, rEq, rNe, L2.start, compSt, List.map_cons, List.map_nil, List.length_cons, List.length_nil, List.replicate_succ, List.replicate_zero, List.cons_append, List.nil_append, List.append_nil, List.getElem?_cons_zero, List.getElem?_cons_succ, List.set_cons_zero, List.set_cons_succ, Option.some.injEq, Option.join_some, V.int.injEq, V.str.injEq, V.bl.injEq, V.ref.injEq, txt_inj, exists_eq_left', exists_eq_left, exists_and_left, and_true, true_and, decide_eq_true_eq, reduceCtorEq, decide_false, decide_true, Bool.not_false, Bool.not_true, if_true, if_false, Bool.false_eq_true, Nat.reduceAdd, Nat.reduceSub, Bool.not_eq_true', decide_eq_false_iff_not, not_true_eq_false, not_false_eq_true]
          refine ⟨_, _, rfl, rfl, _, rfl, ?_⟩
          rw [decide_eq_true (hhi u rfl)]
          exact main
      | some l =>
        cases hi with
        | none =>
          simp only [oV, tCompSet, tRaise, tIsi, tSeq, tAsg, gName, tOp, tUn, tVar, tC, tTest, tB, tIf, tIfS, tAnd, tOr, tNot, tAndV, tOrV, tNotV, tRet, tRetN, tNext, tDrop, tCB, tCons, tNil, tBM, tBM0, tCall, tLst, tTup, tSl, tPart, tNoPart, tIsN, tNotN, tYes, tBreak, tCont, rI0, rI, rU, rEq, rNe, L2.start, compSt, List.map_cons, List.map_nil, List.length_cons, List.length_nil, List.replicate_succ, List.replicate_zero, List.cons_append, List.nil_append, List.append_nil, List.getElem?_cons_zero, List.getElem?_cons_succ, List.set_cons_zero, List.set_cons_succ, Option.some.injEq, Option.join_some, V.int.injEq, V.str.injEq, V.bl.injEq, V.ref.injEq, txt_inj, exists_eq_left', exists_eq_left, exists_and_left, and_true, true_and, decide_eq_true_eq, reduceCtorEq, decide_false, decide_true, Bool.not_false, Bool.not_true, if_true, if_false, Bool.false_eq_true, Nat.reduceAdd, Nat.reduceSub, Bool.not_eq_true', decide_eq_false_iff_not, not_true_eq_false, not_false_eq_true]
          refine ⟨_, _, rfl, rfl, _, rfl, ?_⟩
          rw [decide_eq_true (hlo l rfl)]
          exact main
        | some u =>
          simp only [oV, tCompSet, tRaise, tIsi, tSeq, tAsg, gName, tOp, tUn, tVar, tC, tTest, tB, tIf, tIfS, tAnd, tOr, tNot, tAndV, tOrV, tNotV, tRet, tRetN, tNext, tDrop, tCB, tCons, tNil, tBM, tBM0, tCall, tLst, tTup, tSl, tPart, tNoPart, tIsN, tNotN, tYes, tBreak, tCont, rI0, rI, rU, rEq, rNe, L2.start, compSt, List.map_cons, List.map_nil, List.length_cons, List.length_nil, List.replicate_succ, List.replicate_zero, List.cons_append, List.nil_append, List.append_nil, List.getElem?_cons_zero, List.getElem?_cons_succ, List.set_cons_zero, List.set_cons_succ, Option.some.injEq, Option.join_some, V.int.injEq, V.str.injEq, V.bl.injEq, V.ref.injEq, txt_inj, exists_eq_left', exists_eq_left, exists_and_left, and_true, true_and, decide_eq_true_eq, reduceCtorEq, decide_false, decide_true, Bool.not_false, Bool.not_true, if_true, if_false, Bool.false_eq_true, Nat.reduceAdd, Nat.reduceSub, Bool.not_eq_true', decide_eq_false_iff_not, not_true_eq_false, not_false_eq_true]
          refine ⟨_, _, rfl, rfl, _, rfl, ?_⟩
          rw [decide_eq_true (hlo l rfl)]
          simp only [tCompSet, tRaise, tIsi, tSeq, tAsg, gName, tOp, tUn, tVar, tC, tTest, tB, tIf, tIfS, tAnd, tOr, tNot, tAndV, tOrV, tNotV, tRet, tRetN, tNext, tDrop, tCB, tCons, tNil, tBM, tBM0, tCall, tLst, tTup, tSl, tPart, tNoPart, tIsN, tNotN, tYes, tBreak, tCont, rI0, rI, rU, rEq, rNe, L2.start, compSt, List.map_cons, List.map_nil, List.length_cons, List.length_nil, List.replicate_succ, List.replicate_zero, List.cons_append, List.nil_append, List.append_nil, List.getElem?_cons_zero, List.getElem?_cons_succ, List.set_cons_zero, List.set_cons_succ, Option.some.injEq, Option.join_some, V.int.injEq, V.str.injEq, V.bl.injEq, V.ref.injEq, txt_inj, exists_eq_left', exists_eq_left, exists_and_left, and_true, true_and, decide_eq_true_eq, reduceCtorEq, decide_false, decide_true, Bool.not_false, Bool.not_true, if_true, if_false, Bool.false_eq_true, Nat.reduceAdd, Nat.reduceSub, Bool.not_eq_true', decide_eq_false_iff_not, not_true_eq_false, not_false_eq_true]
          refine ⟨_, _, rfl, rfl, _, rfl, ?_⟩
          rw [decide_eq_true (hhi u rfl)]
          exact main
    refine hc _ _ ?_
    refine seq_set fun c hc => ?_
    simp only [tCompSet, tRaise, tIsi, tSeq, tAsg, gName, tOp, tUn, tVar, tC, tTest, tB, tIf, tIfS, tAnd, tOr, tNot, tAndV, tOrV, tNotV, tRet, tRetN, tNext, tDrop, tCB, tCons, tNil, tBM, tBM0, tCall, tLst, tTup, tSl, tPart, tNoPart, tIsN, tNotN, tYes, tBreak, tCont, rI0, rI, rU, rEq, rNe, L2.start, compSt, List.map_cons, List.map_nil, List.length_cons, List.length_nil, List.replicate_succ, List.replicate_zero, List.cons_append, List.nil_append, List.append_nil, List.getElem?_cons_zero, List.getElem?_cons_succ, List.set_cons_zero, List.set_cons_succ, Option.some.injEq, Option.join_some, V.int.injEq, V.str.injEq, V.bl.injEq, V.ref.injEq, txt_inj, exists_eq_left', exists_eq_left, exists_and_left, and_true, true_and, decide_eq_true_eq, reduceCtorEq, decide_false, decide_true, Bool.not_false, Bool.not_true, if_true, if_false, Bool.false_eq_true, Nat.reduceAdd, Nat.reduceSub, Bool.not_eq_true', decide_eq_false_iff_not, not_true_eq_false, not_false_eq_true]
    refine ixT_go hr (by decide) rfl ?_
    refine ⟨L, m, n' + 1, rfl, hl26, hmls.mono hl26, by omega, by omega, ?_⟩
    rw [hval]
    simp only [tCompSet, tRaise, tIsi, tSeq, tAsg, gName, tOp, tUn, tVar, tC, tTest, tB, tIf, tIfS, tAnd, tOr, tNot, tAndV, tOrV, tNotV, tRet, tRetN, tNext, tDrop, tCB, tCons, tNil, tBM, tBM0, tCall, tLst, tTup, tSl, tPart, tNoPart, tIsN, tNotN, tYes, tBreak, tCont, rI0, rI, rU, rEq, rNe, L2.start, compSt, List.map_cons, List.map_nil, List.length_cons, List.length_nil, List.replicate_succ, List.replicate_zero, List.cons_append, List.nil_append, List.append_nil, List.getElem?_cons_zero, List.getElem?_cons_succ, List.set_cons_zero, List.set_cons_succ, Option.some.injEq, Option.join_some, V.int.injEq, V.str.injEq, V.bl.injEq, V.ref.injEq, txt_inj, exists_eq_left', exists_eq_left, exists_and_left, and_true, true_and, decide_eq_true_eq, reduceCtorEq, decide_false, decide_true, Bool.not_false, Bool.not_true, if_true, if_false, Bool.false_eq_true, Nat.reduceAdd, Nat.reduceSub, Bool.not_eq_true', decide_eq_false_iff_not, not_true_eq_false, not_false_eq_true]
    refine ⟨p, L, h, j, _, w, rfl, hF, D, W.ge, hc _ _ ?_⟩
    have e1 := W.at_
    have g1 := even_ge (i := i) hkR
    have g3 := even_ge (i := i) (k := k) (R := R) hkR
    rw [show (ob L (endsL L h j) w : Int) - (ob L (endsL L h j) (valO L lo (n' + 1) + 1) : Int) = (((i + 1) * (R + 1) / (k + 1) : Nat) : Int) - 1 by omega]
    simp only [tCompSet, tRaise, tIsi, tSeq, tAsg, gName, tOp, tUn, tVar, tC, tTest, tB, tIf, tIfS, tAnd, tOr, tNot, tAndV, tOrV, tNotV, tRet, tRetN, tNext, tDrop, tCB, tCons, tNil, tBM, tBM0, tCall, tLst, tTup, tSl, tPart, tNoPart, tIsN, tNotN, tYes, tBreak, tCont, rI0, rI, rU, rEq, rNe, L2.start, compSt, List.map_cons, List.map_nil, List.length_cons, List.length_nil, List.replicate_succ, List.replicate_zero, List.cons_append, List.nil_append, List.append_nil, List.getElem?_cons_zero, List.getElem?_cons_succ, List.set_cons_zero, List.set_cons_succ, Option.some.injEq, Option.join_some, V.int.injEq, V.str.injEq, V.bl.injEq, V.ref.injEq, txt_inj, exists_eq_left', exists_eq_left, exists_and_left, and_true, true_and, decide_eq_true_eq, reduceCtorEq, decide_false, decide_true, Bool.not_false, Bool.not_true, if_true, if_false, Bool.false_eq_true, Nat.reduceAdd, Nat.reduceSub, Bool.not_eq_true', decide_eq_false_iff_not, not_true_eq_false, not_false_eq_true]
    refine ixT_go hr (by decide) rfl ?_
    simp only [tCompSet, tRaise, tIsi, tSeq, tAsg, gName, tOp, tUn, tVar, tC, tTest, tB, tIf, tIfS, tAnd, tOr, tNot, tAndV, tOrV, tNotV, tRet, tRetN, tNext, tDrop, tCB, tCons, tNil, tBM, tBM0, tCall, tLst, tTup, tSl, tPart, tNoPart, tIsN, tNotN, tYes, tBreak, tCont, rI0, rI, rU, rEq, rNe, L2.start, compSt, List.map_cons, List.map_nil, List.length_cons, List.length_nil, List.replicate_succ, List.replicate_zero, List.cons_append, List.nil_append, List.append_nil, List.getElem?_cons_zero, List.getElem?_cons_succ, List.set_cons_zero, List.set_cons_succ, Option.some.injEq, Option.join_some, V.int.injEq, V.str.injEq, V.bl.injEq, V.ref.injEq, txt_inj, exists_eq_left', exists_eq_left, exists_and_left, and_true, true_and, decide_eq_true_eq, reduceCtorEq, decide_false, decide_true, Bool.not_false, Bool.not_true, if_true, if_false, Bool.false_eq_true, Nat.reduceAdd, Nat.reduceSub, Bool.not_eq_true', decide_eq_false_iff_not, not_true_eq_false, not_false_eq_true]
    refine ⟨mulB_l (by omega) (by omega), lenL_go hM ?_⟩
    rw [List.length_map, hml]
    simp only [tCompSet, tRaise, tIsi, tSeq, tAsg, gName, tOp, tUn, tVar, tC, tTest, tB, tIf, tIfS, tAnd, tOr, tNot, tAndV, tOrV, tNotV, tRet, tRetN, tNext, tDrop, tCB, tCons, tNil, tBM, tBM0, tCall, tLst, tTup, tSl, tPart, tNoPart, tIsN, tNotN, tYes, tBreak, tCont, rI0, rI, rU, rEq, rNe, L2.start, compSt, List.map_cons, List.map_nil, List.length_cons, List.length_nil, List.replicate_succ, List.replicate_zero, List.cons_append, List.nil_append, List.append_nil, List.getElem?_cons_zero, List.getElem?_cons_succ, List.set_cons_zero, List.set_cons_succ, Option.some.injEq, Option.join_some, V.int.injEq, V.str.injEq, V.bl.injEq, V.ref.injEq, txt_inj, exists_eq_left', exists_eq_left, exists_and_left, and_true, true_and, decide_eq_true_eq, reduceCtorEq, decide_false, decide_true, Bool.not_false, Bool.not_true, if_true, if_false, Bool.false_eq_true, Nat.reduceAdd, Nat.reduceSub, Bool.not_eq_true', decide_eq_false_iff_not, not_true_eq_false, not_false_eq_true]
    refine ⟨cdiv (by omega) (by omega), rfl, ?_⟩
    rw [if_neg (fun z => z (by rw [Int.natCast_ediv, Int.natCast_mul]; rfl))]
    by_cases h0 : (0 : Int) < (i : Int)
    · obtain ⟨_, hg0⟩ := hprev (by omega)
      rw [if_pos h0]
      refine ixL_go hM (by omega) (by rw [show ((i : Int) - 1).toNat = i - 1 by omega, List.getElem?_map, hg0]; rfl) ?_
      refine ⟨_, _, rfl, rfl, _, rfl, ?_⟩
      rw [decide_eq_true (hlt (by omega))]
      exact ⟨rfl, _, _, _, rfl⟩
    · rw [if_neg h0]
      first | exact ⟨rfl, _, _, _, rfl⟩ | exact ⟨_, _, _, rfl⟩
  · rintro σ H1 ⟨rfl, v8, v9, v10, rfl⟩
    simp only [tCompSet, tRaise, tIsi, tSeq, tAsg, gName, tOp, tUn, tVar, tC, tTest, tB, tIf, tIfS, tAnd, tOr, tNot, tAndV, tOrV, tNotV, tRet, tRetN, tNext, tDrop, tCB, tCons, tNil, tBM, tBM0, tCall, tLst, tTup, tSl, tPart, tNoPart, tIsN, tNotN, tYes, tBreak, tCont, rI0, rI, rU, rEq, rNe, L2.start, compSt, List.map_cons, List.map_nil, List.length_cons, List.length_nil, List.replicate_succ, List.replicate_zero, List.cons_append, List.nil_append, List.append_nil, List.getElem?_cons_zero, List.getElem?_cons_succ, List.set_cons_zero, List.set_cons_succ, Option.some.injEq, Option.join_some, V.int.injEq, V.str.injEq, V.bl.injEq, V.ref.injEq, txt_inj, exists_eq_left', exists_eq_left, exists_and_left, and_true, true_and, decide_eq_true_eq, reduceCtorEq, decide_false, decide_true, Bool.not_false, Bool.not_true, if_true, if_false, Bool.false_eq_true, Nat.reduceAdd, Nat.reduceSub, Bool.not_eq_true', decide_eq_false_iff_not, not_true_eq_false, not_false_eq_true]
    exact q
theorem read_good {K : PySem.W.Frag} {a : Ad} {N : List Str} {vs : List V} {H : Hp} {Q : VK} {E : XK} (hN : N.length = 11) (h : spGood K vs H Q E) : rd_good K a { nx := fun _ H' => Q .non H', rt := Q } (L2.start N vs) H := by
  obtain ⟨p, pm, L, h, j, lo, hi, n, k, rfl, hF, hM, D, M, ok, hk1, hk2, LN, q⟩ := h
  unfold rd_good L2.start
  rw [hN]
  have hl2 := D.l2
  have hl26 := D.l26
  have hL0 : 0 < L := by omega
  have hlen := M.lens
  have hn1 := LN.pos
  have hn : n ≤ 11001 := by have := LN.len; omega
  have hml := run_len L (endsL L h j) lo hi n k
  have hRk : (k : Int) ≤ roomI L (endsL L h j) lo hi n := LN.room
  obtain ⟨R, hR⟩ := Int.eq_ofNat_of_zero_le (a := roomI L (endsL L h j) lo hi n) (by omega)
  refine seq_set fun c hc => ?_
  simp only [tCompSet, tRaise, tIsi, tSeq, tAsg, gName, tOp, tUn, tVar, tC, tTest, tB, tIf, tIfS, tAnd, tOr, tNot, tAndV, tOrV, tNotV, tRet, tRetN, tNext, tDrop, tCB, tCons, tNil, tBM, tBM0, tCall, tLst, tTup, tSl, tPart, tNoPart, tIsN, tNotN, tYes, tBreak, tCont, rI0, rI, rU, rEq, rNe, L2.start, compSt, List.map_cons, List.map_nil, List.length_cons, List.length_nil, List.replicate_succ, List.replicate_zero, List.cons_append, List.nil_append, List.append_nil, List.getElem?_cons_zero, List.getElem?_cons_succ, List.set_cons_zero, List.set_cons_succ, Option.some.injEq, Option.join_some, V.int.injEq, V.str.injEq, V.bl.injEq, V.ref.injEq, txt_inj, exists_eq_left', exists_eq_left, exists_and_left, and_true, true_and, decide_eq_true_eq, reduceCtorEq, decide_false, decide_true, Bool.not_false, Bool.not_true, if_true, if_false, Bool.false_eq_true, Nat.reduceAdd, Nat.reduceSub, Bool.not_eq_true', decide_eq_false_iff_not, not_true_eq_false, not_false_eq_true]
  refine ixL_go hM (by decide) (by rw [List.getElem?_map, show Int.toNat 0 = 0 from rfl, run_get (by omega)]; rfl) (lenS_go (by rw [low_length]; omega) ?_)
  rw [low_length]
  refine hc _ _ ?_
  refine seq_set fun c hc => ?_
  simp only [tCompSet, tRaise, tIsi, tSeq, tAsg, gName, tOp, tUn, tVar, tC, tTest, tB, tIf, tIfS, tAnd, tOr, tNot, tAndV, tOrV, tNotV, tRet, tRetN, tNext, tDrop, tCB, tCons, tNil, tBM, tBM0, tCall, tLst, tTup, tSl, tPart, tNoPart, tIsN, tNotN, tYes, tBreak, tCont, rI0, rI, rU, rEq, rNe, L2.start, compSt, List.map_cons, List.map_nil, List.length_cons, List.length_nil, List.replicate_succ, List.replicate_zero, List.cons_append, List.nil_append, List.append_nil, List.getElem?_cons_zero, List.getElem?_cons_succ, List.set_cons_zero, List.set_cons_succ, Option.some.injEq, Option.join_some, V.int.injEq, V.str.injEq, V.bl.injEq, V.ref.injEq, txt_inj, exists_eq_left', exists_eq_left, exists_and_left, and_true, true_and, decide_eq_true_eq, reduceCtorEq, decide_false, decide_true, Bool.not_false, Bool.not_true, if_true, if_false, Bool.false_eq_true, Nat.reduceAdd, Nat.reduceSub, Bool.not_eq_true', decide_eq_false_iff_not, not_true_eq_false, not_false_eq_true]
  refine ⟨p, L, h, j, lo, hi, n, rfl, hF, D, M, ok, by omega, fun r hr => hc _ _ ?_⟩
  rw [hR]
  have s1 := Same.up (o := HO.tup [.int (valO L lo n + 1 : Nat), .int (R : Nat)]) H hr
  have ht : SqT K (upd H r (HO.tup [.int (valO L lo n + 1 : Nat), .int (R : Nat)])) r [.int (valO L lo n + 1 : Nat), .int (R : Nat)] := SqT.here
  generalize upd H r _ = H1 at s1 ht ⊢
  refine seq_any fun c hc => ?_
  simp only [tCompSet, tRaise, tIsi, tSeq, tAsg, gName, tOp, tUn, tVar, tC, tTest, tB, tIf, tIfS, tAnd, tOr, tNot, tAndV, tOrV, tNotV, tRet, tRetN, tNext, tDrop, tCB, tCons, tNil, tBM, tBM0, tCall, tLst, tTup, tSl, tPart, tNoPart, tIsN, tNotN, tYes, tBreak, tCont, rI0, rI, rU, rEq, rNe, L2.start, compSt, List.map_cons, List.map_nil, List.length_cons, List.length_nil, List.replicate_succ, List.replicate_zero, List.cons_append, List.nil_append, List.append_nil, List.getElem?_cons_zero, List.getElem?_cons_succ, List.set_cons_zero, List.set_cons_succ, Option.some.injEq, Option.join_some, V.int.injEq, V.str.injEq, V.bl.injEq, V.ref.injEq, txt_inj, exists_eq_left', exists_eq_left, exists_and_left, and_true, true_and, decide_eq_true_eq, reduceCtorEq, decide_false, decide_true, Bool.not_false, Bool.not_true, if_true, if_false, Bool.false_eq_true, Nat.reduceAdd, Nat.reduceSub, Bool.not_eq_true', decide_eq_false_iff_not, not_true_eq_false, not_false_eq_true]
  refine for_r2 (l := 1) (j := n) (fun Q h => by simp only [tCompSet, tRaise, tIsi, tSeq, tAsg, gName, tOp, tUn, tVar, tC, tTest, tB, tIf, tIfS, tAnd, tOr, tNot, tAndV, tOrV, tNotV, tRet, tRetN, tNext, tDrop, tCB, tCons, tNil, tBM, tBM0, tCall, tLst, tTup, tSl, tPart, tNoPart, tIsN, tNotN, tYes, tBreak, tCont, rI0, rI, rU, rEq, rNe, L2.start, compSt, List.map_cons, List.map_nil, List.length_cons, List.length_nil, List.replicate_succ, List.replicate_zero, List.cons_append, List.nil_append, List.append_nil, List.getElem?_cons_zero, List.getElem?_cons_succ, List.set_cons_zero, List.set_cons_succ, Option.some.injEq, Option.join_some, V.int.injEq, V.str.injEq, V.bl.injEq, V.ref.injEq, txt_inj, exists_eq_left', exists_eq_left, exists_and_left, and_true, true_and, decide_eq_true_eq, reduceCtorEq, decide_false, decide_true, Bool.not_false, Bool.not_true, if_true, if_false, Bool.false_eq_true, Nat.reduceAdd, Nat.reduceSub, Bool.not_eq_true', decide_eq_false_iff_not, not_true_eq_false, not_false_eq_true]; exact h) (by omega) (by omega) (by omega) (by omega)
    (fun i σ H' => Same H1 H' ∧ ∃ v7, σ = [some (.int L), some (.ref p), some (oV lo), some (oV hi), some (.ref pm), some (.int n), some (.ref r), v7, none, none, none]) ⟨Same.refl _, _, rfl⟩ ?_ ?_
  · rintro i σ H2 hi' ⟨s2, v7, rfl⟩
    simp only [tCompSet, tRaise, tIsi, tSeq, tAsg, gName, tOp, tUn, tVar, tC, tTest, tB, tIf, tIfS, tAnd, tOr, tNot, tAndV, tOrV, tNotV, tRet, tRetN, tNext, tDrop, tCB, tCons, tNil, tBM, tBM0, tCall, tLst, tTup, tSl, tPart, tNoPart, tIsN, tNotN, tYes, tBreak, tCont, rI0, rI, rU, rEq, rNe, L2.start, compSt, List.map_cons, List.map_nil, List.length_cons, List.length_nil, List.replicate_succ, List.replicate_zero, List.cons_append, List.nil_append, List.append_nil, List.getElem?_cons_zero, List.getElem?_cons_succ, List.set_cons_zero, List.set_cons_succ, Option.some.injEq, Option.join_some, V.int.injEq, V.str.injEq, V.bl.injEq, V.ref.injEq, txt_inj, exists_eq_left', exists_eq_left, exists_and_left, and_true, true_and, decide_eq_true_eq, reduceCtorEq, decide_false, decide_true, Bool.not_false, Bool.not_true, if_true, if_false, Bool.false_eq_true, Nat.reduceAdd, Nat.reduceSub, Bool.not_eq_true', decide_eq_false_iff_not, not_true_eq_false, not_false_eq_true]
    rw [show (1 : Int) + (i : Int) = ((1 + i : Nat) : Int) by omega]
    refine ⟨p, L, h, j, lo, hi, 1 + i, rfl, s2.seq (s1.seq hF), D, M, ok, by omega, fun r2 hr2 => ?_⟩
    refine ixT_go SqT.here (by decide) rfl ?_
    refine lenL_go ((s2.trans (Same.up _ hr2)).seq (s1.seq hM)) ⟨_, rfl, ?_⟩
    rw [List.length_map, hml]
    have := LN.less (1 + i) (by omega) (by omega)
    rw [roomB_true] at this
    refine ⟨_, rfl, ?_⟩
    rw [if_neg (by omega)]
    exact ⟨s2.new hr2, _, rfl⟩
  · rintro σ H2 ⟨s2, v7, rfl⟩
    refine hc _ _ ?_
    exact good_loop (a := a) (s2.seq (s1.seq hF)) (s2.seq (s1.seq hM)) (s2.tup ht) D M ok hk1 hk2 LN hR (q _ (s1.trans s2))
end K07

set_option Elab.async false
set_option linter.all false
set_option maxRecDepth 100000
set_option maxHeartbeats 4000000
namespace K07
open PySem PySem.Spec PyProof.Rows L2 MM
theorem one_run {L h j : Nat} {lo hi : Option (List Nat)} {n n2 w : Nat} {m : List Nat} (D : Hands L h j) (LN : LeastB true L (endsL L h j) lo hi 1 n) (F : Found L (endsL L h j) lo hi n2 w m) (hb : (lo = none ↔ hi = none)) : runL L (endsL L h j) lo hi n 1 = [m] := by
  have hL0 : 0 < L := by have := D.l2; omega
  have EN := ends_ok (K := L) D.hj D.hh
  have e := LN.one F.least
  subst e
  have hRk : ((1 : Nat) : Int) ≤ roomI L (endsL L h j) lo hi n := LN.room
  obtain ⟨R, hR⟩ := Int.eq_ofNat_of_zero_le (a := roomI L (endsL L h j) lo hi n) (by omega)
  have W := run_at (i := 0) D LN hR (by omega)
  have ht : toldI lo hi (R : Nat) = (((R : Nat) : Int) - 1) / 2 := by
    cases lo <;> cases hi
    · rfl
    · exact absurd (hb.mp rfl) (by simp)
    · exact absurd (hb.mpr rfl) (by simp)
    · rfl
  have ew : runW L (endsL L h j) lo hi n 1 0 = w := by
    rw [← nth_ob hL0 EN W.own, ← nth_ob hL0 EN F.own]
    have h1 := W.at_
    have h2 := F.at_
    rw [hR, ht] at h2
    congr 1
    omega
  show [low L (runW L (endsL L h j) lo hi n 1 0) n] = [m]
  rw [ew, F.eq]
theorem strOk_ls {L : Nat} (hL : L ≤ 26) {m : List Nat} (h : Ls L m) : PyData.strOk (txt m) = true := by
  unfold PyData.strOk txt
  simp only [Array.all_eq_true_iff_forall_mem, List.mem_toArray, decide_eq_true_eq]
  intro c hc; have := h c hc; omega
theorem read_rest {K : PySem.W.Frag} {a : Ad} {Q : VK} {sc p : Addr} {L h j k : Nat} {lo hi : Option (List Nat)} {H : Hp} (D : Hands L h j) (M : MarksOk L lo hi) (ok : OkLH lo hi) (hF : SqL K H p (figs L h j)) (hk1 : 1 ≤ k) (hk2 : k ≤ 10000) (q : ∀ H', Q (.bl true) H') :
    (tSeq (tAsg (tCall (spRun a.c_NoRoom) [] E0 (tCons (tVar 1) (tCons (tVar 2) (tCons (tVar 3) (tCons (tVar 5) (tCons (tVar 6) (tCons (tVar 7) tNil))))))) (gName 8))
      (tSeq (tIfS (tOr (tNot (tB (tIsi K "list" (tVar 8)))) (tOr (tTest (tOp rNe (tCB (rLenL K) (tCons (tVar 8) tNil)) (tVar 7))) (tTest (tOp (rIn K false) (tC (.str (txt []))) (tVar 8))))) (tRet (tC (.bl false))) (tNext))
      (tSeq (tIfS (tTest (tOp rNe (tCall (spLeast a.c_NoRoom) [] E0 (tCons (tVar 1) (tCons (tVar 2) (tCons (tVar 3) (tCons (tVar 5) (tCons (tVar 6) (tCons (tVar 7) tNil))))))) (tCB rLenS (tCons (tOp (rIxL K) (tVar 8) (tC (.int 0))) tNil)))) (tRet (tC (.bl false))) (tNext))
      (tSeq (tIfS (tAnd (tTest (tOp rEq (tVar 7) (tC (.int 1)))) (tTest (tOp rEq (tIsN (tVar 5)) (tIsN (tVar 6))))) (tIfS (tTest (tOp (rNeLS K) (tVar 8) (tLst (tCons (tCall (spBetween a.c_NoRoom) [] E0 (tCons (tVar 1) (tCons (tVar 2) (tCons (tVar 3) (tCons (tVar 5) (tCons (tVar 6) tNil)))))) tNil)))) (tRet (tC (.bl false))) (tNext)) (tNext))
      (tRet (tCall (spGood K) [] E0 (tCons (tVar 1) (tCons (tVar 4) (tCons (tVar 5) (tCons (tVar 6) (tCons (tVar 8) tNil))))))))))) { nx := fun _ H' => Q .non H', rt := Q }
      [some (.ref sc), some (.int L), some (.int h), some (.int j), some (.ref p), some (oV lo), some (oV hi), some (.int k), none] H := by
  have hL2 := D.l2
  have hL26 := D.l26
  have hL0 : 0 < L := by omega
  have hlen := M.lens
  refine seq_set fun c hc => ?_
  simp only [tCompSet, tRaise, tIsi, tSeq, tAsg, gName, tOp, tUn, tVar, tC, tTest, tB, tIf, tIfS, tAnd, tOr, tNot, tAndV, tOrV, tNotV, tRet, tRetN, tNext, tDrop, tCB, tCons, tNil, tBM, tBM0, tCall, tLst, tTup, tSl, tPart, tNoPart, tIsN, tNotN, tYes, tBreak, tCont, rI0, rI, rU, rEq, rNe, L2.start, compSt, List.map_cons, List.map_nil, List.length_cons, List.length_nil, List.replicate_succ, List.replicate_zero, List.cons_append, List.nil_append, List.append_nil, List.getElem?_cons_zero, List.getElem?_cons_succ, List.set_cons_zero, List.set_cons_succ, Option.some.injEq, Option.join_some, V.int.injEq, V.str.injEq, V.bl.injEq, V.ref.injEq, txt_inj, exists_eq_left', exists_eq_left, exists_and_left, and_true, true_and, decide_eq_true_eq, reduceCtorEq, decide_false, decide_true, Bool.not_false, Bool.not_true, if_true, if_false, Bool.false_eq_true, Nat.reduceAdd, Nat.reduceSub, Bool.not_eq_true', decide_eq_false_iff_not, not_true_eq_false, not_false_eq_true]
  refine ⟨L, h, j, lo, hi, k, rfl, D, M, hk1, hk2, fun _ H1 n pm s1 hpm LN => hc _ _ ?_, fun z => absurd ok z⟩
  have hn1 := LN.pos
  have hn : n ≤ 11001 := by have := LN.len; omega
  have hml := run_len L (endsL L h j) lo hi n k
  have hels : ∀ x ∈ runL L (endsL L h j) lo hi n k, Ls L x ∧ x.length = n := fun x hx => by
    unfold runL at hx
    obtain ⟨i, _, rfl⟩ := List.mem_map.mp hx
    exact ⟨low_ls hL0 _ _, low_length _ _ _⟩
  have s2 := s1.new (o := HO.lst ((runL L (endsL L h j) lo hi n k).map strV)) hpm
  have hM : SqL K (upd H1 pm (HO.lst ((runL L (endsL L h j) lo hi n k).map strV))) pm ((runL L (endsL L h j) lo hi n k).map strV) := SqL.here
  have hMp : (upd H1 pm (HO.lst ((runL L (endsL L h j) lo hi n k).map strV))) pm = some (.lst ((runL L (endsL L h j) lo hi n k).map strV)) := upd_same
  generalize upd H1 pm _ = H2 at s2 hM hMp ⊢
  refine seq_any fun c hc => ?_
  simp only [tCompSet, tRaise, tIsi, tSeq, tAsg, gName, tOp, tUn, tVar, tC, tTest, tB, tIf, tIfS, tAnd, tOr, tNot, tAndV, tOrV, tNotV, tRet, tRetN, tNext, tDrop, tCB, tCons, tNil, tBM, tBM0, tCall, tLst, tTup, tSl, tPart, tNoPart, tIsN, tNotN, tYes, tBreak, tCont, rI0, rI, rU, rEq, rNe, L2.start, compSt, List.map_cons, List.map_nil, List.length_cons, List.length_nil, List.replicate_succ, List.replicate_zero, List.cons_append, List.nil_append, List.append_nil, List.getElem?_cons_zero, List.getElem?_cons_succ, List.set_cons_zero, List.set_cons_succ, Option.some.injEq, Option.join_some, V.int.injEq, V.str.injEq, V.bl.injEq, V.ref.injEq, txt_inj, exists_eq_left', exists_eq_left, exists_and_left, and_true, true_and, decide_eq_true_eq, reduceCtorEq, decide_false, decide_true, Bool.not_false, Bool.not_true, if_true, if_false, Bool.false_eq_true, Nat.reduceAdd, Nat.reduceSub, Bool.not_eq_true', decide_eq_false_iff_not, not_true_eq_false, not_false_eq_true]
  refine isiL_go hMp ⟨_, rfl, ?_⟩
  simp only [tCompSet, tRaise, tIsi, tSeq, tAsg, gName, tOp, tUn, tVar, tC, tTest, tB, tIf, tIfS, tAnd, tOr, tNot, tAndV, tOrV, tNotV, tRet, tRetN, tNext, tDrop, tCB, tCons, tNil, tBM, tBM0, tCall, tLst, tTup, tSl, tPart, tNoPart, tIsN, tNotN, tYes, tBreak, tCont, rI0, rI, rU, rEq, rNe, L2.start, compSt, List.map_cons, List.map_nil, List.length_cons, List.length_nil, List.replicate_succ, List.replicate_zero, List.cons_append, List.nil_append, List.append_nil, List.getElem?_cons_zero, List.getElem?_cons_succ, List.set_cons_zero, List.set_cons_succ, Option.some.injEq, Option.join_some, V.int.injEq, V.str.injEq, V.bl.injEq, V.ref.injEq, txt_inj, exists_eq_left', exists_eq_left, exists_and_left, and_true, true_and, decide_eq_true_eq, reduceCtorEq, decide_false, decide_true, Bool.not_false, Bool.not_true, if_true, if_false, Bool.false_eq_true, Nat.reduceAdd, Nat.reduceSub, Bool.not_eq_true', decide_eq_false_iff_not, not_true_eq_false, not_false_eq_true]
  refine lenL_go hM ⟨rfl, ?_⟩
  rw [List.length_map, hml, if_neg (fun z => z rfl)]
  refine ⟨pm, _, rfl, .inl hM, rfl, texts_flat _, ?_⟩
  rw [not_in_texts fun x hx e => by have := (hels x hx).2; rw [e] at this; simp at this; omega]
  simp only [tCompSet, tRaise, tIsi, tSeq, tAsg, gName, tOp, tUn, tVar, tC, tTest, tB, tIf, tIfS, tAnd, tOr, tNot, tAndV, tOrV, tNotV, tRet, tRetN, tNext, tDrop, tCB, tCons, tNil, tBM, tBM0, tCall, tLst, tTup, tSl, tPart, tNoPart, tIsN, tNotN, tYes, tBreak, tCont, rI0, rI, rU, rEq, rNe, L2.start, compSt, List.map_cons, List.map_nil, List.length_cons, List.length_nil, List.replicate_succ, List.replicate_zero, List.cons_append, List.nil_append, List.append_nil, List.getElem?_cons_zero, List.getElem?_cons_succ, List.set_cons_zero, List.set_cons_succ, Option.some.injEq, Option.join_some, V.int.injEq, V.str.injEq, V.bl.injEq, V.ref.injEq, txt_inj, exists_eq_left', exists_eq_left, exists_and_left, and_true, true_and, decide_eq_true_eq, reduceCtorEq, decide_false, decide_true, Bool.not_false, Bool.not_true, if_true, if_false, Bool.false_eq_true, Nat.reduceAdd, Nat.reduceSub, Bool.not_eq_true', decide_eq_false_iff_not, not_true_eq_false, not_false_eq_true]
  refine hc _ _ ?_
  refine seq_any fun c hc => ?_
  simp only [tCompSet, tRaise, tIsi, tSeq, tAsg, gName, tOp, tUn, tVar, tC, tTest, tB, tIf, tIfS, tAnd, tOr, tNot, tAndV, tOrV, tNotV, tRet, tRetN, tNext, tDrop, tCB, tCons, tNil, tBM, tBM0, tCall, tLst, tTup, tSl, tPart, tNoPart, tIsN, tNotN, tYes, tBreak, tCont, rI0, rI, rU, rEq, rNe, L2.start, compSt, List.map_cons, List.map_nil, List.length_cons, List.length_nil, List.replicate_succ, List.replicate_zero, List.cons_append, List.nil_append, List.append_nil, List.getElem?_cons_zero, List.getElem?_cons_succ, List.set_cons_zero, List.set_cons_succ, Option.some.injEq, Option.join_some, V.int.injEq, V.str.injEq, V.bl.injEq, V.ref.injEq, txt_inj, exists_eq_left', exists_eq_left, exists_and_left, and_true, true_and, decide_eq_true_eq, reduceCtorEq, decide_false, decide_true, Bool.not_false, Bool.not_true, if_true, if_false, Bool.false_eq_true, Nat.reduceAdd, Nat.reduceSub, Bool.not_eq_true', decide_eq_false_iff_not, not_true_eq_false, not_false_eq_true]
  refine ⟨L, h, j, lo, hi, k, rfl, D, M, hk1, hk2, fun _ H3 n2 s3 LN2 => ?_, fun z => absurd ok z⟩
  refine ixL_go (s3.seq hM) (by decide) (by rw [List.getElem?_map, show Int.toNat 0 = 0 from rfl, run_get (by omega)]; rfl) (lenS_go (by rw [low_length]; omega) ⟨rfl, ?_⟩)
  rw [low_length, LN2.one LN, if_neg (fun z => z rfl)]
  refine hc _ _ ?_
  refine seq_any fun c hc => ?_
  have fin : ∀ H4, Same H3 H4 → c [some (.ref sc), some (.int L), some (.int h), some (.int j), some (.ref p), some (oV lo), some (oV hi), some (.int k), some (.ref pm)] H4 := fun H4 s4 => by
    refine hc _ _ ?_
    simp only [tCompSet, tRaise, tIsi, tSeq, tAsg, gName, tOp, tUn, tVar, tC, tTest, tB, tIf, tIfS, tAnd, tOr, tNot, tAndV, tOrV, tNotV, tRet, tRetN, tNext, tDrop, tCB, tCons, tNil, tBM, tBM0, tCall, tLst, tTup, tSl, tPart, tNoPart, tIsN, tNotN, tYes, tBreak, tCont, rI0, rI, rU, rEq, rNe, L2.start, compSt, List.map_cons, List.map_nil, List.length_cons, List.length_nil, List.replicate_succ, List.replicate_zero, List.cons_append, List.nil_append, List.append_nil, List.getElem?_cons_zero, List.getElem?_cons_succ, List.set_cons_zero, List.set_cons_succ, Option.some.injEq, Option.join_some, V.int.injEq, V.str.injEq, V.bl.injEq, V.ref.injEq, txt_inj, exists_eq_left', exists_eq_left, exists_and_left, and_true, true_and, decide_eq_true_eq, reduceCtorEq, decide_false, decide_true, Bool.not_false, Bool.not_true, if_true, if_false, Bool.false_eq_true, Nat.reduceAdd, Nat.reduceSub, Bool.not_eq_true', decide_eq_false_iff_not, not_true_eq_false, not_false_eq_true]
    exact ⟨p, pm, L, h, j, lo, hi, n, k, rfl, s4.seq (s3.seq (s2.seq hF)), s4.seq (s3.seq hM), D, M, ok, hk1, hk2, LN, fun H5 _ => q H5⟩
  clear hc
  by_cases ek : k = 1
  · subst ek
    have bet : (lo = none ↔ hi = none) → ∀ R : Bool → Hp → Prop, (∀ H4, Same H3 H4 → R false H4) → tTest (tOp (rNeLS K) (tVar 8) (tLst (tCons (tCall (spBetween a.c_NoRoom) [] E0 (tCons (tVar 1) (tCons (tVar 2) (tCons (tVar 3) (tCons (tVar 5) (tCons (tVar 6) tNil)))))) tNil))) [some (.ref sc), some (.int L), some (.int h), some (.int j), some (.ref p), some (oV lo), some (oV hi), some (.int (1 : Nat)), some (.ref pm)] H3 R := fun hb R hR => by
      simp only [tCompSet, tRaise, tIsi, tSeq, tAsg, gName, tOp, tUn, tVar, tC, tTest, tB, tIf, tIfS, tAnd, tOr, tNot, tAndV, tOrV, tNotV, tRet, tRetN, tNext, tDrop, tCB, tCons, tNil, tBM, tBM0, tCall, tLst, tTup, tSl, tPart, tNoPart, tIsN, tNotN, tYes, tBreak, tCont, rI0, rI, rU, rEq, rNe, L2.start, compSt, List.map_cons, List.map_nil, List.length_cons, List.length_nil, List.replicate_succ, List.replicate_zero, List.cons_append, List.nil_append, List.append_nil, List.getElem?_cons_zero, List.getElem?_cons_succ, List.set_cons_zero, List.set_cons_succ, Option.some.injEq, Option.join_some, V.int.injEq, V.str.injEq, V.bl.injEq, V.ref.injEq, txt_inj, exists_eq_left', exists_eq_left, exists_and_left, and_true, true_and, decide_eq_true_eq, reduceCtorEq, decide_false, decide_true, Bool.not_false, Bool.not_true, if_true, if_false, Bool.false_eq_true, Nat.reduceAdd, Nat.reduceSub, Bool.not_eq_true', decide_eq_false_iff_not, not_true_eq_false, not_false_eq_true]
      refine ⟨L, h, j, lo, hi, rfl, D, M, fun _ H4 n3 w m s4 F => ?_, fun z => absurd ok z⟩
      have er := one_run D LN F hb
      simp only [tCompSet, tRaise, tIsi, tSeq, tAsg, gName, tOp, tUn, tVar, tC, tTest, tB, tIf, tIfS, tAnd, tOr, tNot, tAndV, tOrV, tNotV, tRet, tRetN, tNext, tDrop, tCB, tCons, tNil, tBM, tBM0, tCall, tLst, tTup, tSl, tPart, tNoPart, tIsN, tNotN, tYes, tBreak, tCont, rI0, rI, rU, rEq, rNe, L2.start, compSt, List.map_cons, List.map_nil, List.length_cons, List.length_nil, List.replicate_succ, List.replicate_zero, List.cons_append, List.nil_append, List.append_nil, List.getElem?_cons_zero, List.getElem?_cons_succ, List.set_cons_zero, List.set_cons_succ, Option.some.injEq, Option.join_some, V.int.injEq, V.str.injEq, V.bl.injEq, V.ref.injEq, txt_inj, exists_eq_left', exists_eq_left, exists_and_left, and_true, true_and, decide_eq_true_eq, reduceCtorEq, decide_false, decide_true, Bool.not_false, Bool.not_true, if_true, if_false, Bool.false_eq_true, Nat.reduceAdd, Nat.reduceSub, Bool.not_eq_true', decide_eq_false_iff_not, not_true_eq_false, not_false_eq_true]
      refine ⟨by decide, fun p4 hp4 => ?_⟩
      have hmm := hels m (by rw [er]; exact List.mem_cons_self)
      have hso := strOk_ls hL26 hmm.1
      rw [er] at hM
      refine ⟨pm, p4, [m], [m], rfl, rfl, (s4.trans (Same.up _ hp4)).seq (s3.seq hM), SqL.here, fun y hy => ?_, fun y hy => ?_, _, rfl, ?_⟩
      · rw [List.mem_singleton.mp hy]; exact hso
      · rw [List.mem_singleton.mp hy]; exact hso
      · simp only [decide_true, Bool.not_true]
        exact hR _ (s4.new hp4)
    generalize tTest (tOp (rNeLS K) (tVar 8) (tLst (tCons (tCall (spBetween a.c_NoRoom) [] E0 (tCons (tVar 1) (tCons (tVar 2) (tCons (tVar 3) (tCons (tVar 5) (tCons (tVar 6) tNil)))))) tNil))) = TT at bet ⊢
    cases lo with
    | none =>
      cases hi with
      | none =>
        simp only [oV, tCompSet, tRaise, tIsi, tSeq, tAsg, gName, tOp, tUn, tVar, tC, tTest, tB, tIf, tIfS, tAnd, tOr, tNot, tAndV, tOrV, tNotV, tRet, tRetN, tNext, tDrop, tCB, tCons, tNil, tBM, tBM0, tCall, tLst, tTup, tSl, tPart, tNoPart, tIsN, tNotN, tYes, tBreak, tCont, rI0, rI, rU, rEq, rNe, L2.start, compSt, List.map_cons, List.map_nil, List.length_cons, List.length_nil, List.replicate_succ, List.replicate_zero, List.cons_append, List.nil_append, List.append_nil, List.getElem?_cons_zero, List.getElem?_cons_succ, List.set_cons_zero, List.set_cons_succ, Option.some.injEq, Option.join_some, V.int.injEq, V.str.injEq, V.bl.injEq, V.ref.injEq, txt_inj, exists_eq_left', exists_eq_left, exists_and_left, and_true, true_and, decide_eq_true_eq, reduceCtorEq, decide_false, decide_true, Bool.not_false, Bool.not_true, if_true, if_false, Bool.false_eq_true, Nat.reduceAdd, Nat.reduceSub, Bool.not_eq_true', decide_eq_false_iff_not, not_true_eq_false, not_false_eq_true]
        refine ⟨rfl, ?_⟩
        rw [if_pos (show ((1 : Nat) : Int) = 1 from rfl)]
        refine ⟨rfl, ?_⟩
        refine bet (by simp) _ fun H4 s4 => ?_
        simp only [tCompSet, tRaise, tIsi, tSeq, tAsg, gName, tOp, tUn, tVar, tC, tTest, tB, tIf, tIfS, tAnd, tOr, tNot, tAndV, tOrV, tNotV, tRet, tRetN, tNext, tDrop, tCB, tCons, tNil, tBM, tBM0, tCall, tLst, tTup, tSl, tPart, tNoPart, tIsN, tNotN, tYes, tBreak, tCont, rI0, rI, rU, rEq, rNe, L2.start, compSt, List.map_cons, List.map_nil, List.length_cons, List.length_nil, List.replicate_succ, List.replicate_zero, List.cons_append, List.nil_append, List.append_nil, List.getElem?_cons_zero, List.getElem?_cons_succ, List.set_cons_zero, List.set_cons_succ, Option.some.injEq, Option.join_some, V.int.injEq, V.str.injEq, V.bl.injEq, V.ref.injEq, txt_inj, exists_eq_left', exists_eq_left, exists_and_left, and_true, true_and, decide_eq_true_eq, reduceCtorEq, decide_false, decide_true, Bool.not_false, Bool.not_true, if_true, if_false, Bool.false_eq_true, Nat.reduceAdd, Nat.reduceSub, Bool.not_eq_true', decide_eq_false_iff_not, not_true_eq_false, not_false_eq_true]
        exact fin H4 s4
      | some u =>
        simp only [oV, tCompSet, tRaise, tIsi, tSeq, tAsg, gName, tOp, tUn, tVar, tC, tTest, tB, tIf, tIfS, tAnd, tOr, tNot, tAndV, tOrV, tNotV, tRet, tRetN, tNext, tDrop, tCB, tCons, tNil, tBM, tBM0, tCall, tLst, tTup, tSl, tPart, tNoPart, tIsN, tNotN, tYes, tBreak, tCont, rI0, rI, rU, rEq, rNe, L2.start, compSt, List.map_cons, List.map_nil, List.length_cons, List.length_nil, List.replicate_succ, List.replicate_zero, List.cons_append, List.nil_append, List.append_nil, List.getElem?_cons_zero, List.getElem?_cons_succ, List.set_cons_zero, List.set_cons_succ, Option.some.injEq, Option.join_some, V.int.injEq, V.str.injEq, V.bl.injEq, V.ref.injEq, txt_inj, exists_eq_left', exists_eq_left, exists_and_left, and_true, true_and, decide_eq_true_eq, reduceCtorEq, decide_false, decide_true, Bool.not_false, Bool.not_true, if_true, if_false, Bool.false_eq_true, Nat.reduceAdd, Nat.reduceSub, Bool.not_eq_true', decide_eq_false_iff_not, not_true_eq_false, not_false_eq_true]
        refine ⟨rfl, ?_⟩
        rw [if_pos (show ((1 : Nat) : Int) = 1 from rfl)]
        exact ⟨rfl, fin _ (Same.refl _)⟩
    | some l =>
      cases hi with
      | none =>
        simp only [oV, tCompSet, tRaise, tIsi, tSeq, tAsg, gName, tOp, tUn, tVar, tC, tTest, tB, tIf, tIfS, tAnd, tOr, tNot, tAndV, tOrV, tNotV, tRet, tRetN, tNext, tDrop, tCB, tCons, tNil, tBM, tBM0, tCall, tLst, tTup, tSl, tPart, tNoPart, tIsN, tNotN, tYes, tBreak, tCont, rI0, rI, rU, rEq, rNe, L2.start, compSt, List.map_cons, List.map_nil, List.length_cons, List.length_nil, List.replicate_succ, List.replicate_zero, List.cons_append, List.nil_append, List.append_nil, List.getElem?_cons_zero, List.getElem?_cons_succ, List.set_cons_zero, List.set_cons_succ, Option.some.injEq, Option.join_some, V.int.injEq, V.str.injEq, V.bl.injEq, V.ref.injEq, txt_inj, exists_eq_left', exists_eq_left, exists_and_left, and_true, true_and, decide_eq_true_eq, reduceCtorEq, decide_false, decide_true, Bool.not_false, Bool.not_true, if_true, if_false, Bool.false_eq_true, Nat.reduceAdd, Nat.reduceSub, Bool.not_eq_true', decide_eq_false_iff_not, not_true_eq_false, not_false_eq_true]
        refine ⟨rfl, ?_⟩
        rw [if_pos (show ((1 : Nat) : Int) = 1 from rfl)]
        exact ⟨rfl, fin _ (Same.refl _)⟩
      | some u =>
        simp only [oV, tCompSet, tRaise, tIsi, tSeq, tAsg, gName, tOp, tUn, tVar, tC, tTest, tB, tIf, tIfS, tAnd, tOr, tNot, tAndV, tOrV, tNotV, tRet, tRetN, tNext, tDrop, tCB, tCons, tNil, tBM, tBM0, tCall, tLst, tTup, tSl, tPart, tNoPart, tIsN, tNotN, tYes, tBreak, tCont, rI0, rI, rU, rEq, rNe, L2.start, compSt, List.map_cons, List.map_nil, List.length_cons, List.length_nil, List.replicate_succ, List.replicate_zero, List.cons_append, List.nil_append, List.append_nil, List.getElem?_cons_zero, List.getElem?_cons_succ, List.set_cons_zero, List.set_cons_succ, Option.some.injEq, Option.join_some, V.int.injEq, V.str.injEq, V.bl.injEq, V.ref.injEq, txt_inj, exists_eq_left', exists_eq_left, exists_and_left, and_true, true_and, decide_eq_true_eq, reduceCtorEq, decide_false, decide_true, Bool.not_false, Bool.not_true, if_true, if_false, Bool.false_eq_true, Nat.reduceAdd, Nat.reduceSub, Bool.not_eq_true', decide_eq_false_iff_not, not_true_eq_false, not_false_eq_true]
        refine ⟨rfl, ?_⟩
        rw [if_pos (show ((1 : Nat) : Int) = 1 from rfl)]
        refine ⟨rfl, ?_⟩
        refine bet (by simp) _ fun H4 s4 => ?_
        simp only [tCompSet, tRaise, tIsi, tSeq, tAsg, gName, tOp, tUn, tVar, tC, tTest, tB, tIf, tIfS, tAnd, tOr, tNot, tAndV, tOrV, tNotV, tRet, tRetN, tNext, tDrop, tCB, tCons, tNil, tBM, tBM0, tCall, tLst, tTup, tSl, tPart, tNoPart, tIsN, tNotN, tYes, tBreak, tCont, rI0, rI, rU, rEq, rNe, L2.start, compSt, List.map_cons, List.map_nil, List.length_cons, List.length_nil, List.replicate_succ, List.replicate_zero, List.cons_append, List.nil_append, List.append_nil, List.getElem?_cons_zero, List.getElem?_cons_succ, List.set_cons_zero, List.set_cons_succ, Option.some.injEq, Option.join_some, V.int.injEq, V.str.injEq, V.bl.injEq, V.ref.injEq, txt_inj, exists_eq_left', exists_eq_left, exists_and_left, and_true, true_and, decide_eq_true_eq, reduceCtorEq, decide_false, decide_true, Bool.not_false, Bool.not_true, if_true, if_false, Bool.false_eq_true, Nat.reduceAdd, Nat.reduceSub, Bool.not_eq_true', decide_eq_false_iff_not, not_true_eq_false, not_false_eq_true]
        exact fin H4 s4
  · simp only [tCompSet, tRaise, tIsi, tSeq, tAsg, gName, tOp, tUn, tVar, tC, tTest, tB, tIf, tIfS, tAnd, tOr, tNot, tAndV, tOrV, tNotV, tRet, tRetN, tNext, tDrop, tCB, tCons, tNil, tBM, tBM0, tCall, tLst, tTup, tSl, tPart, tNoPart, tIsN, tNotN, tYes, tBreak, tCont, rI0, rI, rU, rEq, rNe, L2.start, compSt, List.map_cons, List.map_nil, List.length_cons, List.length_nil, List.replicate_succ, List.replicate_zero, List.cons_append, List.nil_append, List.append_nil, List.getElem?_cons_zero, List.getElem?_cons_succ, List.set_cons_zero, List.set_cons_succ, Option.some.injEq, Option.join_some, V.int.injEq, V.str.injEq, V.bl.injEq, V.ref.injEq, txt_inj, exists_eq_left', exists_eq_left, exists_and_left, and_true, true_and, decide_eq_true_eq, reduceCtorEq, decide_false, decide_true, Bool.not_false, Bool.not_true, if_true, if_false, Bool.false_eq_true, Nat.reduceAdd, Nat.reduceSub, Bool.not_eq_true', decide_eq_false_iff_not, not_true_eq_false, not_false_eq_true]
    refine ⟨rfl, ?_⟩
    rw [if_neg (fun z => ek (by omega))]
    exact fin _ (Same.refl _)
theorem read_law {K : PySem.W.Frag} {a : Ad} {N : List Str} {vs : List V} {H : Hp} {Q : VK} {E : XK} (hN : N.length = 9) (h : spLaw K vs H Q E) : rd_law K a { nx := fun _ H' => Q .non H', rt := Q } (L2.start N vs) H := by
  obtain ⟨sc, ns, rfl, hS, hl, q⟩ := h
  unfold rd_law L2.start
  rw [hN]
  refine seq_set fun c hc => ?_
  simp only [tCompSet, tRaise, tIsi, tSeq, tAsg, gName, tOp, tUn, tVar, tC, tTest, tB, tIf, tIfS, tAnd, tOr, tNot, tAndV, tOrV, tNotV, tRet, tRetN, tNext, tDrop, tCB, tCons, tNil, tBM, tBM0, tCall, tLst, tTup, tSl, tPart, tNoPart, tIsN, tNotN, tYes, tBreak, tCont, rI0, rI, rU, rEq, rNe, L2.start, compSt, List.map_cons, List.map_nil, List.length_cons, List.length_nil, List.replicate_succ, List.replicate_zero, List.cons_append, List.nil_append, List.append_nil, List.getElem?_cons_zero, List.getElem?_cons_succ, List.set_cons_zero, List.set_cons_succ, Option.some.injEq, Option.join_some, V.int.injEq, V.str.injEq, V.bl.injEq, V.ref.injEq, txt_inj, exists_eq_left', exists_eq_left, exists_and_left, and_true, true_and, decide_eq_true_eq, reduceCtorEq, decide_false, decide_true, Bool.not_false, Bool.not_true, if_true, if_false, Bool.false_eq_true, Nat.reduceAdd, Nat.reduceSub, Bool.not_eq_true', decide_eq_false_iff_not, not_true_eq_false, not_false_eq_true]
  refine ⟨sc, ns, _, _, rfl, hS, hl, by decide, by decide, by decide, fun r hr0 hr1 => ?_⟩
  simp only [tCompSet, tRaise, tIsi, tSeq, tAsg, gName, tOp, tUn, tVar, tC, tTest, tB, tIf, tIfS, tAnd, tOr, tNot, tAndV, tOrV, tNotV, tRet, tRetN, tNext, tDrop, tCB, tCons, tNil, tBM, tBM0, tCall, tLst, tTup, tSl, tPart, tNoPart, tIsN, tNotN, tYes, tBreak, tCont, rI0, rI, rU, rEq, rNe, L2.start, compSt, List.map_cons, List.map_nil, List.length_cons, List.length_nil, List.replicate_succ, List.replicate_zero, List.cons_append, List.nil_append, List.append_nil, List.getElem?_cons_zero, List.getElem?_cons_succ, List.set_cons_zero, List.set_cons_succ, Option.some.injEq, Option.join_some, V.int.injEq, V.str.injEq, V.bl.injEq, V.ref.injEq, txt_inj, exists_eq_left', exists_eq_left, exists_and_left, and_true, true_and, decide_eq_true_eq, reduceCtorEq, decide_false, decide_true, Bool.not_false, Bool.not_true, if_true, if_false, Bool.false_eq_true, Nat.reduceAdd, Nat.reduceSub, Bool.not_eq_true', decide_eq_false_iff_not, not_true_eq_false, not_false_eq_true]
  refine ⟨by decide, fun p hp => ?_⟩
  refine ⟨sc, ns, _, _, rfl, hS.up hp, hl, by decide, by decide, by decide, fun r' hr0' hr1' => ?_⟩
  refine ixI_go (ns := [2, 3, 4, 10, 26, 2 + r]) SqL.here hr0' (by simpa using hr1') fun z hz _ => hc _ _ ?_
  clear hc c
  have hzb : 2 ≤ z ∧ z ≤ 26 := by
    simp only [List.mem_cons, List.not_mem_nil, or_false] at hz
    omega
  obtain ⟨L, rfl⟩ := Int.eq_ofNat_of_zero_le (a := z) (by omega)
  have hL : 2 ≤ L := by omega
  have hL26 : L ≤ 26 := by omega
  have s1 := Same.up (o := HO.lst [V.int 2, V.int 3, V.int 4, V.int 10, V.int 26, V.int (2 + r)]) H hp
  generalize upd H p _ = H1 at s1 ⊢
  have hS1 := s1.seq hS
  refine seq_set fun c hc => ?_
  simp only [tCompSet, tRaise, tIsi, tSeq, tAsg, gName, tOp, tUn, tVar, tC, tTest, tB, tIf, tIfS, tAnd, tOr, tNot, tAndV, tOrV, tNotV, tRet, tRetN, tNext, tDrop, tCB, tCons, tNil, tBM, tBM0, tCall, tLst, tTup, tSl, tPart, tNoPart, tIsN, tNotN, tYes, tBreak, tCont, rI0, rI, rU, rEq, rNe, L2.start, compSt, List.map_cons, List.map_nil, List.length_cons, List.length_nil, List.replicate_succ, List.replicate_zero, List.cons_append, List.nil_append, List.append_nil, List.getElem?_cons_zero, List.getElem?_cons_succ, List.set_cons_zero, List.set_cons_succ, Option.some.injEq, Option.join_some, V.int.injEq, V.str.injEq, V.bl.injEq, V.ref.injEq, txt_inj, exists_eq_left', exists_eq_left, exists_and_left, and_true, true_and, decide_eq_true_eq, reduceCtorEq, decide_false, decide_true, Bool.not_false, Bool.not_true, if_true, if_false, Bool.false_eq_true, Nat.reduceAdd, Nat.reduceSub, Bool.not_eq_true', decide_eq_false_iff_not, not_true_eq_false, not_false_eq_true]
  refine ⟨sc, ns, _, _, rfl, hS1, hl, by decide, by decide, by omega, fun r2 hr20 hr21 => ?_⟩
  simp only [tCompSet, tRaise, tIsi, tSeq, tAsg, gName, tOp, tUn, tVar, tC, tTest, tB, tIf, tIfS, tAnd, tOr, tNot, tAndV, tOrV, tNotV, tRet, tRetN, tNext, tDrop, tCB, tCons, tNil, tBM, tBM0, tCall, tLst, tTup, tSl, tPart, tNoPart, tIsN, tNotN, tYes, tBreak, tCont, rI0, rI, rU, rEq, rNe, L2.start, compSt, List.map_cons, List.map_nil, List.length_cons, List.length_nil, List.replicate_succ, List.replicate_zero, List.cons_append, List.nil_append, List.append_nil, List.getElem?_cons_zero, List.getElem?_cons_succ, List.set_cons_zero, List.set_cons_succ, Option.some.injEq, Option.join_some, V.int.injEq, V.str.injEq, V.bl.injEq, V.ref.injEq, txt_inj, exists_eq_left', exists_eq_left, exists_and_left, and_true, true_and, decide_eq_true_eq, reduceCtorEq, decide_false, decide_true, Bool.not_false, Bool.not_true, if_true, if_false, Bool.false_eq_true, Nat.reduceAdd, Nat.reduceSub, Bool.not_eq_true', decide_eq_false_iff_not, not_true_eq_false, not_false_eq_true]
  refine ⟨by decide, fun p2 hp2 => ?_⟩
  refine ⟨sc, ns, _, _, rfl, hS1.up hp2, hl, by decide, by decide, by decide, fun r3 hr30 hr31 => ?_⟩
  refine ixI_go (ns := [1, (L : Int) - 1, 1 + r2]) SqL.here hr30 (by simpa using hr31) fun z hz2 _ => hc _ _ ?_
  clear hc c
  have hzb2 : 1 ≤ z ∧ z ≤ (L : Int) - 1 := by
    simp only [List.mem_cons, List.not_mem_nil, or_false] at hz2
    omega
  obtain ⟨h, rfl⟩ := Int.eq_ofNat_of_zero_le (a := z) (by omega)
  have s2 := Same.up (o := HO.lst [V.int 1, V.int ((L : Int) - 1), V.int (1 + r2)]) H1 hp2
  generalize upd H1 p2 _ = H2 at s2 ⊢
  have hS2 := s2.seq hS1
  refine seq_set fun c hc => ?_
  simp only [tCompSet, tRaise, tIsi, tSeq, tAsg, gName, tOp, tUn, tVar, tC, tTest, tB, tIf, tIfS, tAnd, tOr, tNot, tAndV, tOrV, tNotV, tRet, tRetN, tNext, tDrop, tCB, tCons, tNil, tBM, tBM0, tCall, tLst, tTup, tSl, tPart, tNoPart, tIsN, tNotN, tYes, tBreak, tCont, rI0, rI, rU, rEq, rNe, L2.start, compSt, List.map_cons, List.map_nil, List.length_cons, List.length_nil, List.replicate_succ, List.replicate_zero, List.cons_append, List.nil_append, List.append_nil, List.getElem?_cons_zero, List.getElem?_cons_succ, List.set_cons_zero, List.set_cons_succ, Option.some.injEq, Option.join_some, V.int.injEq, V.str.injEq, V.bl.injEq, V.ref.injEq, txt_inj, exists_eq_left', exists_eq_left, exists_and_left, and_true, true_and, decide_eq_true_eq, reduceCtorEq, decide_false, decide_true, Bool.not_false, Bool.not_true, if_true, if_false, Bool.false_eq_true, Nat.reduceAdd, Nat.reduceSub, Bool.not_eq_true', decide_eq_false_iff_not, not_true_eq_false, not_false_eq_true]
  refine ⟨sc, ns, _, _, rfl, hS2, hl, by decide, by decide, by omega, fun r4 hr40 hr41 => hc _ _ ?_⟩
  clear hc c
  obtain ⟨j, rfl⟩ := Int.eq_ofNat_of_zero_le hr40
  have D : Hands L h j := ⟨hL, hL26, by omega, by omega⟩
  refine seq_set fun c hc => ?_
  simp only [tListR3, tCompSet, tRaise, tIsi, tSeq, tAsg, gName, tOp, tUn, tVar, tC, tTest, tB, tIf, tIfS, tAnd, tOr, tNot, tAndV, tOrV, tNotV, tRet, tRetN, tNext, tDrop, tCB, tCons, tNil, tBM, tBM0, tCall, tLst, tTup, tSl, tPart, tNoPart, tIsN, tNotN, tYes, tBreak, tCont, rI0, rI, rU, rEq, rNe, L2.start, compSt, List.map_cons, List.map_nil, List.length_cons, List.length_nil, List.replicate_succ, List.replicate_zero, List.cons_append, List.nil_append, List.append_nil, List.getElem?_cons_zero, List.getElem?_cons_succ, List.set_cons_zero, List.set_cons_succ, Option.some.injEq, Option.join_some, V.int.injEq, V.str.injEq, V.bl.injEq, V.ref.injEq, txt_inj, exists_eq_left', exists_eq_left, exists_and_left, and_true, true_and, decide_eq_true_eq, reduceCtorEq, decide_false, decide_true, Bool.not_false, Bool.not_true, if_true, if_false, Bool.false_eq_true, Nat.reduceAdd, Nat.reduceSub, Bool.not_eq_true', decide_eq_false_iff_not, not_true_eq_false, not_false_eq_true]
  refine ⟨_, _, _, rfl, ⟨by omega, by omega, by omega, by omega, by omega, by omega⟩, fun p4 hp4 => hc _ _ ?_⟩
  clear hc c
  rw [figs_eq D]
  have s3 := Same.up (o := HO.lst (figs L h j)) H2 hp4
  have hF : SqL K (upd H2 p4 (HO.lst (figs L h j))) p4 (figs L h j) := SqL.here
  generalize upd H2 p4 _ = H3 at s3 hF ⊢
  have hS3 := s3.seq hS2
  refine seq_any fun c hc => ?_
  simp only [tCompSet, tRaise, tIsi, tSeq, tAsg, gName, tOp, tUn, tVar, tC, tTest, tB, tIf, tIfS, tAnd, tOr, tNot, tAndV, tOrV, tNotV, tRet, tRetN, tNext, tDrop, tCB, tCons, tNil, tBM, tBM0, tCall, tLst, tTup, tSl, tPart, tNoPart, tIsN, tNotN, tYes, tBreak, tCont, rI0, rI, rU, rEq, rNe, L2.start, compSt, List.map_cons, List.map_nil, List.length_cons, List.length_nil, List.replicate_succ, List.replicate_zero, List.cons_append, List.nil_append, List.append_nil, List.getElem?_cons_zero, List.getElem?_cons_succ, List.set_cons_zero, List.set_cons_succ, Option.some.injEq, Option.join_some, V.int.injEq, V.str.injEq, V.bl.injEq, V.ref.injEq, txt_inj, exists_eq_left', exists_eq_left, exists_and_left, and_true, true_and, decide_eq_true_eq, reduceCtorEq, decide_false, decide_true, Bool.not_false, Bool.not_true, if_true, if_false, Bool.false_eq_true, Nat.reduceAdd, Nat.reduceSub, Bool.not_eq_true', decide_eq_false_iff_not, not_true_eq_false, not_false_eq_true]
  refine ⟨sc, ns, L, rfl, hS3, hl, hL, hL26, fun p3 lo hi hp3 M le => ?_⟩
  simp only [gTup, gCons, gNil, tCompSet, tRaise, tIsi, tSeq, tAsg, gName, tOp, tUn, tVar, tC, tTest, tB, tIf, tIfS, tAnd, tOr, tNot, tAndV, tOrV, tNotV, tRet, tRetN, tNext, tDrop, tCB, tCons, tNil, tBM, tBM0, tCall, tLst, tTup, tSl, tPart, tNoPart, tIsN, tNotN, tYes, tBreak, tCont, rI0, rI, rU, rEq, rNe, L2.start, compSt, List.map_cons, List.map_nil, List.length_cons, List.length_nil, List.replicate_succ, List.replicate_zero, List.cons_append, List.nil_append, List.append_nil, List.getElem?_cons_zero, List.getElem?_cons_succ, List.set_cons_zero, List.set_cons_succ, Option.some.injEq, Option.join_some, V.int.injEq, V.str.injEq, V.bl.injEq, V.ref.injEq, txt_inj, exists_eq_left', exists_eq_left, exists_and_left, and_true, true_and, decide_eq_true_eq, reduceCtorEq, decide_false, decide_true, Bool.not_false, Bool.not_true, if_true, if_false, Bool.false_eq_true, Nat.reduceAdd, Nat.reduceSub, Bool.not_eq_true', decide_eq_false_iff_not, not_true_eq_false, not_false_eq_true]
  refine ⟨[oV lo, oV hi], SqT.here, rfl, oV lo, [oV hi], rfl, oV hi, [], rfl, rfl, hc _ _ ?_⟩
  clear hc c
  have s4 := Same.up (o := HO.tup [oV lo, oV hi]) H3 hp3
  generalize upd H3 p3 _ = H4 at s4 ⊢
  have hS4 := s4.seq hS3
  have hF4 := s4.seq hF
  refine seq_set fun c hc => ?_
  simp only [tCompSet, tRaise, tIsi, tSeq, tAsg, gName, tOp, tUn, tVar, tC, tTest, tB, tIf, tIfS, tAnd, tOr, tNot, tAndV, tOrV, tNotV, tRet, tRetN, tNext, tDrop, tCB, tCons, tNil, tBM, tBM0, tCall, tLst, tTup, tSl, tPart, tNoPart, tIsN, tNotN, tYes, tBreak, tCont, rI0, rI, rU, rEq, rNe, L2.start, compSt, List.map_cons, List.map_nil, List.length_cons, List.length_nil, List.replicate_succ, List.replicate_zero, List.cons_append, List.nil_append, List.append_nil, List.getElem?_cons_zero, List.getElem?_cons_succ, List.set_cons_zero, List.set_cons_succ, Option.some.injEq, Option.join_some, V.int.injEq, V.str.injEq, V.bl.injEq, V.ref.injEq, txt_inj, exists_eq_left', exists_eq_left, exists_and_left, and_true, true_and, decide_eq_true_eq, reduceCtorEq, decide_false, decide_true, Bool.not_false, Bool.not_true, if_true, if_false, Bool.false_eq_true, Nat.reduceAdd, Nat.reduceSub, Bool.not_eq_true', decide_eq_false_iff_not, not_true_eq_false, not_false_eq_true]
  refine ⟨sc, ns, _, _, rfl, hS4, hl, by decide, by decide, by omega, fun r5 hr50 hr51 => ?_⟩
  simp only [tCompSet, tRaise, tIsi, tSeq, tAsg, gName, tOp, tUn, tVar, tC, tTest, tB, tIf, tIfS, tAnd, tOr, tNot, tAndV, tOrV, tNotV, tRet, tRetN, tNext, tDrop, tCB, tCons, tNil, tBM, tBM0, tCall, tLst, tTup, tSl, tPart, tNoPart, tIsN, tNotN, tYes, tBreak, tCont, rI0, rI, rU, rEq, rNe, L2.start, compSt, List.map_cons, List.map_nil, List.length_cons, List.length_nil, List.replicate_succ, List.replicate_zero, List.cons_append, List.nil_append, List.append_nil, List.getElem?_cons_zero, List.getElem?_cons_succ, List.set_cons_zero, List.set_cons_succ, Option.some.injEq, Option.join_some, V.int.injEq, V.str.injEq, V.bl.injEq, V.ref.injEq, txt_inj, exists_eq_left', exists_eq_left, exists_and_left, and_true, true_and, decide_eq_true_eq, reduceCtorEq, decide_false, decide_true, Bool.not_false, Bool.not_true, if_true, if_false, Bool.false_eq_true, Nat.reduceAdd, Nat.reduceSub, Bool.not_eq_true', decide_eq_false_iff_not, not_true_eq_false, not_false_eq_true]
  refine ⟨by decide, fun p5 hp5 => ?_⟩
  refine ⟨sc, ns, _, _, rfl, hS4.up hp5, hl, by decide, by decide, by decide, fun r6 hr60 hr61 => ?_⟩
  refine ixI_go (ns := [1, 2, 1 + r5]) SqL.here hr60 (by simpa using hr61) fun z hz3 _ => hc _ _ ?_
  clear hc c
  have hzb3 : 1 ≤ z ∧ z ≤ 41 := by
    simp only [List.mem_cons, List.not_mem_nil, or_false] at hz3
    omega
  have s5 := Same.up (o := HO.lst [V.int 1, V.int 2, V.int (1 + r5)]) H4 hp5
  generalize upd H4 p5 _ = H5 at s5 ⊢
  have hS5 := s5.seq hS4
  have hF5 := s5.seq hF4
  refine seq_any fun c hc => ?_
  suffices main : ∀ k : Nat, 1 ≤ k → k ≤ 300 → c [some (.ref sc), some (.int L), some (.int h), some (.int j), some (.ref p4), some (oV lo), some (oV hi), some (.int k), none] H5 by
    simp only [tCompSet, tRaise, tIsi, tSeq, tAsg, gName, tOp, tUn, tVar, tC, tTest, tB, tIf, tIfS, tAnd, tOr, tNot, tAndV, tOrV, tNotV, tRet, tRetN, tNext, tDrop, tCB, tCons, tNil, tBM, tBM0, tCall, tLst, tTup, tSl, tPart, tNoPart, tIsN, tNotN, tYes, tBreak, tCont, rI0, rI, rU, rEq, rNe, L2.start, compSt, List.map_cons, List.map_nil, List.length_cons, List.length_nil, List.replicate_succ, List.replicate_zero, List.cons_append, List.nil_append, List.append_nil, List.getElem?_cons_zero, List.getElem?_cons_succ, List.set_cons_zero, List.set_cons_succ, Option.some.injEq, Option.join_some, V.int.injEq, V.str.injEq, V.bl.injEq, V.ref.injEq, txt_inj, exists_eq_left', exists_eq_left, exists_and_left, and_true, true_and, decide_eq_true_eq, reduceCtorEq, decide_false, decide_true, Bool.not_false, Bool.not_true, if_true, if_false, Bool.false_eq_true, Nat.reduceAdd, Nat.reduceSub, Bool.not_eq_true', decide_eq_false_iff_not, not_true_eq_false, not_false_eq_true]
    refine ⟨sc, ns, _, _, rfl, hS5, hl, by decide, by decide, by decide, fun r7 hr70 hr71 => ⟨rfl, ?_⟩⟩
    by_cases e : V.int r7 = V.int 1
    · rw [if_pos e]
      refine ⟨sc, ns, _, _, rfl, hS5, hl, by decide, by decide, by decide, fun r8 hr80 hr81 => ?_⟩
      simp only [tCompSet, tRaise, tIsi, tSeq, tAsg, gName, tOp, tUn, tVar, tC, tTest, tB, tIf, tIfS, tAnd, tOr, tNot, tAndV, tOrV, tNotV, tRet, tRetN, tNext, tDrop, tCB, tCons, tNil, tBM, tBM0, tCall, tLst, tTup, tSl, tPart, tNoPart, tIsN, tNotN, tYes, tBreak, tCont, rI0, rI, rU, rEq, rNe, L2.start, compSt, List.map_cons, List.map_nil, List.length_cons, List.length_nil, List.replicate_succ, List.replicate_zero, List.cons_append, List.nil_append, List.append_nil, List.getElem?_cons_zero, List.getElem?_cons_succ, List.set_cons_zero, List.set_cons_succ, Option.some.injEq, Option.join_some, V.int.injEq, V.str.injEq, V.bl.injEq, V.ref.injEq, txt_inj, exists_eq_left', exists_eq_left, exists_and_left, and_true, true_and, decide_eq_true_eq, reduceCtorEq, decide_false, decide_true, Bool.not_false, Bool.not_true, if_true, if_false, Bool.false_eq_true, Nat.reduceAdd, Nat.reduceSub, Bool.not_eq_true', decide_eq_false_iff_not, not_true_eq_false, not_false_eq_true]
      obtain ⟨k, hk⟩ := Int.eq_ofNat_of_zero_le (a := 100 + r8) (by omega)
      rw [hk]
      exact main k (by omega) (by omega)
    · rw [if_neg e]
      obtain ⟨k, rfl⟩ := Int.eq_ofNat_of_zero_le (a := z) (by omega)
      exact main k (by omega) (by omega)
  intro k hk1 hk2
  refine hc _ _ ?_
  clear hc c
  refine seq_any fun c hc => ?_
  have rest := fun (H6 : Hp) (s6 : Same H5 H6) (ok : OkLH lo hi) => hc _ _ (read_rest (K := K) (a := a) (Q := Q) (sc := sc) (p := p4) (H := H6) (k := k) D M ok (s6.seq hF5) hk1 (by omega) q)
  clear hc
  have hL0 : 0 < L := by omega
  have irr : ∀ x y : List Nat, Mark L x → Mark L y → x.length ≤ 1000 → y.length ≤ 1000 → (x < y ↔ val L x 1000 < val L y 1000) := fun x y mx my zx zy => lt_val hL0 1000 mx.ls my.ls mx.na my.na zx zy
  cases lo with
  | none =>
    simp only [oV, tCompSet, tRaise, tIsi, tSeq, tAsg, gName, tOp, tUn, tVar, tC, tTest, tB, tIf, tIfS, tAnd, tOr, tNot, tAndV, tOrV, tNotV, tRet, tRetN, tNext, tDrop, tCB, tCons, tNil, tBM, tBM0, tCall, tLst, tTup, tSl, tPart, tNoPart, tIsN, tNotN, tYes, tBreak, tCont, rI0, rI, rU, rEq, rNe, L2.start, compSt, List.map_cons, List.map_nil, List.length_cons, List.length_nil, List.replicate_succ, List.replicate_zero, List.cons_append, List.nil_append, List.append_nil, List.getElem?_cons_zero, List.getElem?_cons_succ, List.set_cons_zero, List.set_cons_succ, Option.some.injEq, Option.join_some, V.int.injEq, V.str.injEq, V.bl.injEq, V.ref.injEq, txt_inj, exists_eq_left', exists_eq_left, exists_and_left, and_true, true_and, decide_eq_true_eq, reduceCtorEq, decide_false, decide_true, Bool.not_false, Bool.not_true, if_true, if_false, Bool.false_eq_true, Nat.reduceAdd, Nat.reduceSub, Bool.not_eq_true', decide_eq_false_iff_not, not_true_eq_false, not_false_eq_true]
    exact rest H5 (Same.refl _) (fun l h e => nomatch e)
  | some l =>
    cases hi with
    | none =>
      simp only [oV, tCompSet, tRaise, tIsi, tSeq, tAsg, gName, tOp, tUn, tVar, tC, tTest, tB, tIf, tIfS, tAnd, tOr, tNot, tAndV, tOrV, tNotV, tRet, tRetN, tNext, tDrop, tCB, tCons, tNil, tBM, tBM0, tCall, tLst, tTup, tSl, tPart, tNoPart, tIsN, tNotN, tYes, tBreak, tCont, rI0, rI, rU, rEq, rNe, L2.start, compSt, List.map_cons, List.map_nil, List.length_cons, List.length_nil, List.replicate_succ, List.replicate_zero, List.cons_append, List.nil_append, List.append_nil, List.getElem?_cons_zero, List.getElem?_cons_succ, List.set_cons_zero, List.set_cons_succ, Option.some.injEq, Option.join_some, V.int.injEq, V.str.injEq, V.bl.injEq, V.ref.injEq, txt_inj, exists_eq_left', exists_eq_left, exists_and_left, and_true, true_and, decide_eq_true_eq, reduceCtorEq, decide_false, decide_true, Bool.not_false, Bool.not_true, if_true, if_false, Bool.false_eq_true, Nat.reduceAdd, Nat.reduceSub, Bool.not_eq_true', decide_eq_false_iff_not, not_true_eq_false, not_false_eq_true]
      exact rest H5 (Same.refl _) (fun l h _ e => nomatch e)
    | some u =>
      obtain ⟨ml, zl⟩ := M.mlo l rfl
      obtain ⟨mu, zu⟩ := M.mhi u rfl
      have hle := le l u rfl rfl
      have no : ¬ OkLH (some u) (some l) := fun ok => by
        have h1 := (irr u l mu ml zu zl).mp (ok u l rfl rfl)
        rcases hle with h2 | h2
        · have := (irr l u ml mu zl zu).mp h2
          omega
        · subst h2
          omega
      simp only [oV, tCompSet, tRaise, tIsi, tSeq, tAsg, gName, tOp, tUn, tVar, tC, tTest, tB, tIf, tIfS, tAnd, tOr, tNot, tAndV, tOrV, tNotV, tRet, tRetN, tNext, tDrop, tCB, tCons, tNil, tBM, tBM0, tCall, tLst, tTup, tSl, tPart, tNoPart, tIsN, tNotN, tYes, tBreak, tCont, rI0, rI, rU, rEq, rNe, L2.start, compSt, List.map_cons, List.map_nil, List.length_cons, List.length_nil, List.replicate_succ, List.replicate_zero, List.cons_append, List.nil_append, List.append_nil, List.getElem?_cons_zero, List.getElem?_cons_succ, List.set_cons_zero, List.set_cons_succ, Option.some.injEq, Option.join_some, V.int.injEq, V.str.injEq, V.bl.injEq, V.ref.injEq, txt_inj, exists_eq_left', exists_eq_left, exists_and_left, and_true, true_and, decide_eq_true_eq, reduceCtorEq, decide_false, decide_true, Bool.not_false, Bool.not_true, if_true, if_false, Bool.false_eq_true, Nat.reduceAdd, Nat.reduceSub, Bool.not_eq_true', decide_eq_false_iff_not, not_true_eq_false, not_false_eq_true]
      refine ⟨L, h, j, some u, some l, k, rfl, D, ⟨fun m e => by cases e; exact ⟨mu, zu⟩, fun m e => by cases e; exact ⟨ml, zl⟩⟩, hk1, by omega, no, fun H6 s6 => ?_⟩
      refine ⟨_, rfl, ?_⟩
      simp only [tCompSet, tRaise, tIsi, tSeq, tAsg, gName, tOp, tUn, tVar, tC, tTest, tB, tIf, tIfS, tAnd, tOr, tNot, tAndV, tOrV, tNotV, tRet, tRetN, tNext, tDrop, tCB, tCons, tNil, tBM, tBM0, tCall, tLst, tTup, tSl, tPart, tNoPart, tIsN, tNotN, tYes, tBreak, tCont, rI0, rI, rU, rEq, rNe, L2.start, compSt, List.map_cons, List.map_nil, List.length_cons, List.length_nil, List.replicate_succ, List.replicate_zero, List.cons_append, List.nil_append, List.append_nil, List.getElem?_cons_zero, List.getElem?_cons_succ, List.set_cons_zero, List.set_cons_succ, Option.some.injEq, Option.join_some, V.int.injEq, V.str.injEq, V.bl.injEq, V.ref.injEq, txt_inj, exists_eq_left', exists_eq_left, exists_and_left, and_true, true_and, decide_eq_true_eq, reduceCtorEq, decide_false, decide_true, Bool.not_false, Bool.not_true, if_true, if_false, Bool.false_eq_true, Nat.reduceAdd, Nat.reduceSub, Bool.not_eq_true', decide_eq_false_iff_not, not_true_eq_false, not_false_eq_true]
      refine ⟨rfl, ?_⟩
      by_cases e : l = u
      · rw [if_pos (by rw [e])]
        exact q _
      · rw [if_neg e]
        exact rest H6 s6 fun l' u' e1 e2 => by cases e1; cases e2; exact hle.resolve_right e
section
variable {P : Program} {w : World} {K : PySem.W.Frag} {mg : Str → Option Value} {base : Heap} {a : Ad}
theorem ok_power (T : Tx K mg a) : FnOk P w K mg base CX0 1 a.f_power a.fd_power ["letters", "long"] spPower :=
  T.F_power.okQ sc_power (fun _ _ _ _ ⟨_, _, e, _⟩ => by rw [e]; rfl) (fun _ _ _ _ _ _ hr => pr_power T  hr) fun _ _ _ _ h => read_power rfl h
theorem ok_figure_at (T : Tx K mg a) : FnOk P w K mg base CX0 1 a.f_figure_at a.fd_figure_at ["mark", "place"] spFig :=
  T.F_figure_at.okQ sc_figure_at (fun _ _ _ _ ⟨_, _, e, _⟩ => by rw [e]; rfl) (fun _ _ _ _ _ _ hr => pr_figure_at T  hr) fun _ _ _ _ h => read_fig rfl h
theorem ok_whole_of (T : Tx K mg a) : FnOk P w K mg base CX0 2 a.f_whole_of a.fd_whole_of ["letters", "mark", "long"] spWhole :=
  T.F_whole_of.okQ sc_whole_of (fun _ _ _ _ ⟨_, _, _, e, _⟩ => by rw [e]; rfl) (fun _ _ _ _ _ _ hr => pr_whole_of T (ok_figure_at T) hr) fun _ _ _ _ h => read_whole rfl h
theorem ok_mark_of (T : Tx K mg a) : FnOk P w K mg base CX0 1 a.f_mark_of a.fd_mark_of ["letters", "number", "long"] spMarkOf :=
  T.F_mark_of.okQ sc_mark_of (fun _ _ _ _ ⟨_, _, _, e, _⟩ => by rw [e]; rfl) (fun _ _ _ _ _ _ hr => pr_mark_of T  hr) fun _ _ _ _ h => read_markOf rfl h
theorem ok_ends_of (T : Tx K mg a) : FnOk P w K mg base CX0 1 a.f_ends_of a.fd_ends_of ["letters", "hands", "hand"] spEnds :=
  T.F_ends_of.okQ sc_ends_of (fun _ _ _ _ ⟨_, _, _, e, _⟩ => by rw [e]; rfl) (fun _ _ _ _ _ _ hr => pr_ends_of T  hr) fun _ _ _ _ h => read_ends rfl h
theorem ok_ask_room (T : Tx K mg a) : FnOk P w K mg base (CX1 P w) 1 a.f_ask_room a.fd_ask_room ["low", "high"] (spAskRoom a.c_NoRoom) :=
  T.F_ask_room.okX sc_ask_room (fun _ _ _ _ ⟨_, _, e, _⟩ => by rw [e]; rfl) (fun _ _ _ _ _ _ hr => pr_ask_room T  hr) fun _ _ _ _ h => read_askRoom rfl h
theorem ok_high_whole_of (T : Tx K mg a) : FnOk P w K mg base CX0 3 a.f_high_whole_of a.fd_high_whole_of ["letters", "high", "long"] spHigh :=
  T.F_high_whole_of.okQ sc_high_whole_of (fun _ _ _ _ ⟨_, _, _, e, _⟩ => by rw [e]; rfl) (fun _ _ _ _ _ _ hr => pr_high_whole_of T (ok_power T) (ok_whole_of T) hr) fun _ _ _ _ h => read_high rfl h
theorem ok_owned_below (T : Tx K mg a) : FnOk P w K mg base CX0 1 a.f_owned_below a.fd_owned_below ["letters", "ends", "number"] spBelow :=
  T.F_owned_below.okQ sc_owned_below (fun _ _ _ _ ⟨_, _, _, e, _⟩ => by rw [e]; rfl) (fun _ _ _ _ _ _ hr => pr_owned_below T  hr) fun _ _ _ _ h => read_below rfl h
theorem ok_owned_up_to_low (T : Tx K mg a) : FnOk P w K mg base CX0 2 a.f_owned_up_to_low a.fd_owned_up_to_low ["letters", "ends", "low_whole"] spUpLow :=
  T.F_owned_up_to_low.okQ sc_owned_up_to_low (fun _ _ _ _ ⟨_, _, _, e, _⟩ => by rw [e]; rfl) (fun _ _ _ _ _ _ hr => pr_owned_up_to_low T (ok_owned_below T) hr) fun _ _ _ _ h => read_upLow rfl h
theorem ok_owned_ahead_of_high (T : Tx K mg a) : FnOk P w K mg base CX0 2 a.f_owned_ahead_of_high a.fd_owned_ahead_of_high ["letters", "ends", "high", "high_whole", "long", "beginnings"] spAhead :=
  T.F_owned_ahead_of_high.okQ sc_owned_ahead_of_high (fun _ _ _ _ ⟨_, _, _, _, _, _, e, _⟩ => by rw [e]; rfl) (fun _ _ _ _ _ _ hr => pr_owned_ahead_of_high T (ok_owned_below T) hr) fun _ _ _ _ h => read_ahead rfl h
theorem ok_counted_at (T : Tx K mg a) : FnOk P w K mg base CX0 4 a.f_counted_at a.fd_counted_at ["letters", "ends", "low", "high", "long", "beginnings"] spCounted :=
  T.F_counted_at.okQ sc_counted_at (fun _ _ _ _ ⟨_, _, _, _, _, _, e, _⟩ => by rw [e]; rfl) (fun _ _ _ _ _ _ hr => pr_counted_at T (ok_whole_of T) (ok_high_whole_of T) (ok_owned_ahead_of_high T) (ok_owned_up_to_low T) hr) fun _ _ _ _ h => read_counted rfl h
theorem ok_room_at (T : Tx K mg a) : FnOk P w K mg base (CX1 P w) 5 a.f_room_at a.fd_room_at ["letters", "hands", "hand", "low", "high", "long"] (spRoom a.c_NoRoom) :=
  T.F_room_at.okX sc_room_at (fun _ _ _ _ ⟨_, _, _, _, _, _, e, _⟩ => by rw [e]; rfl) (fun _ _ _ _ _ _ hr => pr_room_at T (ok_ask_room T) (ok_ends_of T) (ok_counted_at T) hr) fun _ _ _ _ h => read_room rfl h
theorem ok_nth_mark (T : Tx K mg a) : FnOk P w K mg base (CX1 P w) 3 a.f_nth_mark a.fd_nth_mark ["letters", "hands", "hand", "low", "high", "long", "number"] (spNth a.c_NoRoom) :=
  T.F_nth_mark.okX sc_nth_mark (fun _ _ _ _ ⟨_, _, _, _, _, _, _, e, _⟩ => by rw [e]; rfl) (fun _ _ _ _ _ _ hr => pr_nth_mark T (ok_ask_room T) (ok_ends_of T) (ok_whole_of T) (ok_owned_up_to_low T) (ok_mark_of T) hr) fun _ _ _ _ h => read_nth rfl h
theorem ok_least_counted (T : Tx K mg a) : FnOk P w K mg base CX0 4 a.f_least_counted a.fd_least_counted ["letters", "ends", "low", "high", "many", "beginnings"] spLeastC :=
  T.F_least_counted.okQ sc_least_counted (fun _ _ _ _ ⟨_, _, _, _, _, _, e, _⟩ => by rw [e]; rfl) (fun _ _ _ _ _ _ hr => pr_least_counted T (ok_high_whole_of T) (ok_figure_at T) (ok_owned_ahead_of_high T) (ok_owned_up_to_low T) hr) fun _ _ _ _ h => read_leastC rfl h
theorem ok_least_long (T : Tx K mg a) : FnOk P w K mg base (CX1 P w) 5 a.f_least_long a.fd_least_long ["letters", "hands", "hand", "low", "high", "many"] (spLeast a.c_NoRoom) :=
  T.F_least_long.okX sc_least_long (fun _ _ _ _ ⟨_, _, _, _, _, _, e, _⟩ => by rw [e]; rfl) (fun _ _ _ _ _ _ hr => pr_least_long T (ok_ask_room T) (ok_ends_of T) (ok_least_counted T) hr) fun _ _ _ _ h => read_least rfl h
theorem ok_told_number (T : Tx K mg a) : FnOk P w K mg base CX0 1 a.f_told_number a.fd_told_number ["low", "high", "many"] spTold :=
  T.F_told_number.okQ sc_told_number (fun _ _ _ _ ⟨_, _, _, e, _⟩ => by rw [e]; rfl) (fun _ _ _ _ _ _ hr => pr_told_number T  hr) fun _ _ _ _ h => read_told rfl h
theorem ok_mark_between (T : Tx K mg a) : FnOk P w K mg base (CX1 P w) 6 a.f_mark_between a.fd_mark_between ["letters", "hands", "hand", "low", "high"] (spBetween a.c_NoRoom) :=
  T.F_mark_between.okX sc_mark_between (fun _ _ _ _ ⟨_, _, _, _, _, e, _⟩ => by rw [e]; rfl) (fun _ _ _ _ _ _ hr => pr_mark_between T (ok_least_long T) (ok_room_at T) (ok_told_number T) (ok_nth_mark T) hr) fun _ _ _ _ h => read_between rfl h
theorem ok_spread (T : Tx K mg a) : FnOk P w K mg base CX0 1 a.f_spread a.fd_spread ["many", "whole"] spSpread :=
  T.F_spread.okQ sc_spread (fun _ _ _ _ ⟨_, _, e, _⟩ => by rw [e]; rfl) (fun _ _ _ _ _ _ hr => pr_spread T  hr) fun _ _ _ _ h => read_spread rfl h
theorem ok_run_between (T : Tx K mg a) : FnOk P w K mg base (CX1 P w) 6 a.f_run_between a.fd_run_between ["letters", "hands", "hand", "low", "high", "many"] (spRun a.c_NoRoom) :=
  T.F_run_between.okX sc_run_between (fun _ _ _ _ ⟨_, _, _, _, _, _, e, _⟩ => by rw [e]; rfl) (fun _ _ _ _ _ _ hr => pr_run_between T (ok_least_long T) (ok_room_at T) (ok_spread T) (ok_nth_mark T) hr) fun _ _ _ _ h => read_run rfl h
theorem ok_draw (T : Tx K mg a) : FnOk P w K mg base CX0 1 a.f_draw a.fd_draw ["_law_script", "_law_k", "_law_many_here"] (spDraw K) :=
  T.F_draw.okQ sc_draw (fun _ _ _ _ ⟨_, _, _, _, e, _⟩ => by rw [e]; rfl) (fun _ _ _ _ _ _ hr => pr_draw T  hr) fun _ _ _ _ h => read_draw rfl h
theorem ok_mark (T : Tx K mg a) : FnOk P w K mg base CX0 2 a.f_mark a.fd_mark ["_law_script", "_law_base", "_law_letters"] (spMark K) :=
  T.F_mark.okQ sc_mark (fun _ _ _ _ ⟨_, _, _, _, e, _⟩ => by rw [e]; rfl) (fun _ _ _ _ _ _ hr => pr_mark T (ok_draw T) hr) fun _ _ _ _ h => read_mark rfl h
theorem ok_pair (T : Tx K mg a) : FnOk P w K mg base CX0 3 a.f_pair a.fd_pair ["_law_script", "_law_letters"] (spPair K) :=
  T.F_pair.okQ sc_pair (fun _ _ _ _ ⟨_, _, _, e, _⟩ => by rw [e]; rfl) (fun _ _ _ _ _ _ hr => pr_pair T (ok_mark T) (ok_draw T) hr) fun _ _ _ _ h => read_pair rfl h
theorem ok_whole (T : Tx K mg a) : FnOk P w K mg base CX0 1 a.f_whole a.fd_whole ["_law_letters", "_law_mark_here", "_law_long"] spLWhole :=
  T.F_whole.okQ sc_whole (fun _ _ _ _ ⟨_, _, _, e, _⟩ => by rw [e]; rfl) (fun _ _ _ _ _ _ hr => pr_whole T  hr) fun _ _ _ _ h => read_lwhole rfl h
theorem ok_many (T : Tx K mg a) : FnOk P w K mg base CX0 1 a.f_many a.fd_many ["_law_letters", "_law_ends", "_law_least", "_law_most"] (spMany K) :=
  T.F_many.okQ sc_many (fun _ _ _ _ ⟨_, _, _, _, _, _, e, _⟩ => by rw [e]; rfl) (fun _ _ _ _ _ _ hr => pr_many T  hr) fun _ _ _ _ h => read_many rfl h
theorem ok_room (T : Tx K mg a) : FnOk P w K mg base CX0 2 a.f_room a.fd_room ["_law_letters", "_law_ends", "_law_low", "_law_high", "_law_long"] (spLRoom K) :=
  T.F_room.okQ sc_room (fun _ _ _ _ ⟨_, _, _, _, _, _, _, e, _⟩ => by rw [e]; rfl) (fun _ _ _ _ _ _ hr => pr_room T (ok_whole T) (ok_many T) hr) fun _ _ _ _ h => read_lroom rfl h
theorem ok_good (T : Tx K mg a) : FnOk P w K mg base CX0 3 a.f_good a.fd_good ["_law_letters", "_law_ends", "_law_low", "_law_high", "_law_marks"] (spGood K) :=
  T.F_good.okQ sc_good (fun _ _ _ _ ⟨_, _, _, _, _, _, _, _, _, e, _⟩ => by rw [e]; rfl) (fun _ _ _ _ _ _ hr => pr_good T (ok_room T) (ok_whole T) (ok_many T) hr) fun _ _ _ _ h => read_good rfl h
theorem ok_refused (T : Tx K mg a) : FnOk P w K mg base CX0 7 a.f_refused a.fd_refused ["_law_letters", "_law_hands", "_law_hand", "_law_low", "_law_high", "_law_many_here"] spRefused :=
  T.F_refused.okQ sc_refused (fun _ _ _ _ ⟨_, _, _, _, _, _, e, _⟩ => by rw [e]; rfl) (fun _ _ _ _ _ _ hr => pr_refused T (ok_run_between T) hr) fun _ _ _ _ h => read_refused T rfl h
theorem ok_law (T : Tx K mg a) : FnOk P w K mg base CX0 8 a.f_law a.fd_law ["_law_script"] (spLaw K) :=
  T.F_law.okQ sc_law (fun _ _ _ _ ⟨_, _, e, _⟩ => by rw [e]; rfl) (fun _ _ _ _ _ _ hr => pr_law T (ok_draw T) (ok_pair T) (ok_refused T) (ok_run_between T) (ok_least_long T) (ok_mark_between T) (ok_good T) hr) fun _ _ _ _ h => read_law rfl h
end
theorem tx_mk {K : PySem.W.Frag} {h : Heap} {mg : Str → Option Value} (X : K.In h) (G : h.Ns mainGlobals mg)
    {f_power : Addr} {od_power an_power : Option Addr} {sl_power : Array (Option Value)} {oc_power kV_power dc_power pm_power cd_power ct_power : Value}
    (a_power : PySem.W.nsIn K mainGlobals "power" = some (some (.ref f_power))) (l_power : K.lookup f_power = some ⟨oc_power, od_power, .func (PySem.W.fnOf "power" "power" (defArgs s_power) (defBody s_power) (defScope s_power) .none kV_power dc_power pm_power an_power cd_power ct_power), sl_power⟩) (c_power : PySem.W.codeIn K cd_power "power" = true) (k_power : PySem.W.keepIn K (.ref f_power) = true)
    {f_figure_at : Addr} {od_figure_at an_figure_at : Option Addr} {sl_figure_at : Array (Option Value)} {oc_figure_at kV_figure_at dc_figure_at pm_figure_at cd_figure_at ct_figure_at : Value}
    (a_figure_at : PySem.W.nsIn K mainGlobals "figure_at" = some (some (.ref f_figure_at))) (l_figure_at : K.lookup f_figure_at = some ⟨oc_figure_at, od_figure_at, .func (PySem.W.fnOf "figure_at" "figure_at" (defArgs s_figure_at) (defBody s_figure_at) (defScope s_figure_at) .none kV_figure_at dc_figure_at pm_figure_at an_figure_at cd_figure_at ct_figure_at), sl_figure_at⟩) (c_figure_at : PySem.W.codeIn K cd_figure_at "figure_at" = true) (k_figure_at : PySem.W.keepIn K (.ref f_figure_at) = true)
    {f_whole_of : Addr} {od_whole_of an_whole_of : Option Addr} {sl_whole_of : Array (Option Value)} {oc_whole_of kV_whole_of dc_whole_of pm_whole_of cd_whole_of ct_whole_of : Value}
    (a_whole_of : PySem.W.nsIn K mainGlobals "whole_of" = some (some (.ref f_whole_of))) (l_whole_of : K.lookup f_whole_of = some ⟨oc_whole_of, od_whole_of, .func (PySem.W.fnOf "whole_of" "whole_of" (defArgs s_whole_of) (defBody s_whole_of) (defScope s_whole_of) .none kV_whole_of dc_whole_of pm_whole_of an_whole_of cd_whole_of ct_whole_of), sl_whole_of⟩) (c_whole_of : PySem.W.codeIn K cd_whole_of "whole_of" = true) (k_whole_of : PySem.W.keepIn K (.ref f_whole_of) = true)
    {f_mark_of : Addr} {od_mark_of an_mark_of : Option Addr} {sl_mark_of : Array (Option Value)} {oc_mark_of kV_mark_of dc_mark_of pm_mark_of cd_mark_of ct_mark_of : Value}
    (a_mark_of : PySem.W.nsIn K mainGlobals "mark_of" = some (some (.ref f_mark_of))) (l_mark_of : K.lookup f_mark_of = some ⟨oc_mark_of, od_mark_of, .func (PySem.W.fnOf "mark_of" "mark_of" (defArgs s_mark_of) (defBody s_mark_of) (defScope s_mark_of) .none kV_mark_of dc_mark_of pm_mark_of an_mark_of cd_mark_of ct_mark_of), sl_mark_of⟩) (c_mark_of : PySem.W.codeIn K cd_mark_of "mark_of" = true) (k_mark_of : PySem.W.keepIn K (.ref f_mark_of) = true)
    {f_ends_of : Addr} {od_ends_of an_ends_of : Option Addr} {sl_ends_of : Array (Option Value)} {oc_ends_of kV_ends_of dc_ends_of pm_ends_of cd_ends_of ct_ends_of : Value}
    (a_ends_of : PySem.W.nsIn K mainGlobals "ends_of" = some (some (.ref f_ends_of))) (l_ends_of : K.lookup f_ends_of = some ⟨oc_ends_of, od_ends_of, .func (PySem.W.fnOf "ends_of" "ends_of" (defArgs s_ends_of) (defBody s_ends_of) (defScope s_ends_of) .none kV_ends_of dc_ends_of pm_ends_of an_ends_of cd_ends_of ct_ends_of), sl_ends_of⟩) (c_ends_of : PySem.W.codeIn K cd_ends_of "ends_of" = true) (k_ends_of : PySem.W.keepIn K (.ref f_ends_of) = true)
    {f_ask_room : Addr} {od_ask_room an_ask_room : Option Addr} {sl_ask_room : Array (Option Value)} {oc_ask_room kV_ask_room dc_ask_room pm_ask_room cd_ask_room ct_ask_room : Value}
    (a_ask_room : PySem.W.nsIn K mainGlobals "ask_room" = some (some (.ref f_ask_room))) (l_ask_room : K.lookup f_ask_room = some ⟨oc_ask_room, od_ask_room, .func (PySem.W.fnOf "ask_room" "ask_room" (defArgs s_ask_room) (defBody s_ask_room) (defScope s_ask_room) .none kV_ask_room dc_ask_room pm_ask_room an_ask_room cd_ask_room ct_ask_room), sl_ask_room⟩) (c_ask_room : PySem.W.codeIn K cd_ask_room "ask_room" = true) (k_ask_room : PySem.W.keepIn K (.ref f_ask_room) = true)
    {f_high_whole_of : Addr} {od_high_whole_of an_high_whole_of : Option Addr} {sl_high_whole_of : Array (Option Value)} {oc_high_whole_of kV_high_whole_of dc_high_whole_of pm_high_whole_of cd_high_whole_of ct_high_whole_of : Value}
    (a_high_whole_of : PySem.W.nsIn K mainGlobals "high_whole_of" = some (some (.ref f_high_whole_of))) (l_high_whole_of : K.lookup f_high_whole_of = some ⟨oc_high_whole_of, od_high_whole_of, .func (PySem.W.fnOf "high_whole_of" "high_whole_of" (defArgs s_high_whole_of) (defBody s_high_whole_of) (defScope s_high_whole_of) .none kV_high_whole_of dc_high_whole_of pm_high_whole_of an_high_whole_of cd_high_whole_of ct_high_whole_of), sl_high_whole_of⟩) (c_high_whole_of : PySem.W.codeIn K cd_high_whole_of "high_whole_of" = true) (k_high_whole_of : PySem.W.keepIn K (.ref f_high_whole_of) = true)
    {f_owned_below : Addr} {od_owned_below an_owned_below : Option Addr} {sl_owned_below : Array (Option Value)} {oc_owned_below kV_owned_below dc_owned_below pm_owned_below cd_owned_below ct_owned_below : Value}
    (a_owned_below : PySem.W.nsIn K mainGlobals "owned_below" = some (some (.ref f_owned_below))) (l_owned_below : K.lookup f_owned_below = some ⟨oc_owned_below, od_owned_below, .func (PySem.W.fnOf "owned_below" "owned_below" (defArgs s_owned_below) (defBody s_owned_below) (defScope s_owned_below) .none kV_owned_below dc_owned_below pm_owned_below an_owned_below cd_owned_below ct_owned_below), sl_owned_below⟩) (c_owned_below : PySem.W.codeIn K cd_owned_below "owned_below" = true) (k_owned_below : PySem.W.keepIn K (.ref f_owned_below) = true)
    {f_owned_up_to_low : Addr} {od_owned_up_to_low an_owned_up_to_low : Option Addr} {sl_owned_up_to_low : Array (Option Value)} {oc_owned_up_to_low kV_owned_up_to_low dc_owned_up_to_low pm_owned_up_to_low cd_owned_up_to_low ct_owned_up_to_low : Value}
    (a_owned_up_to_low : PySem.W.nsIn K mainGlobals "owned_up_to_low" = some (some (.ref f_owned_up_to_low))) (l_owned_up_to_low : K.lookup f_owned_up_to_low = some ⟨oc_owned_up_to_low, od_owned_up_to_low, .func (PySem.W.fnOf "owned_up_to_low" "owned_up_to_low" (defArgs s_owned_up_to_low) (defBody s_owned_up_to_low) (defScope s_owned_up_to_low) .none kV_owned_up_to_low dc_owned_up_to_low pm_owned_up_to_low an_owned_up_to_low cd_owned_up_to_low ct_owned_up_to_low), sl_owned_up_to_low⟩) (c_owned_up_to_low : PySem.W.codeIn K cd_owned_up_to_low "owned_up_to_low" = true) (k_owned_up_to_low : PySem.W.keepIn K (.ref f_owned_up_to_low) = true)
    {f_owned_ahead_of_high : Addr} {od_owned_ahead_of_high an_owned_ahead_of_high : Option Addr} {sl_owned_ahead_of_high : Array (Option Value)} {oc_owned_ahead_of_high kV_owned_ahead_of_high dc_owned_ahead_of_high pm_owned_ahead_of_high cd_owned_ahead_of_high ct_owned_ahead_of_high : Value}
    (a_owned_ahead_of_high : PySem.W.nsIn K mainGlobals "owned_ahead_of_high" = some (some (.ref f_owned_ahead_of_high))) (l_owned_ahead_of_high : K.lookup f_owned_ahead_of_high = some ⟨oc_owned_ahead_of_high, od_owned_ahead_of_high, .func (PySem.W.fnOf "owned_ahead_of_high" "owned_ahead_of_high" (defArgs s_owned_ahead_of_high) (defBody s_owned_ahead_of_high) (defScope s_owned_ahead_of_high) .none kV_owned_ahead_of_high dc_owned_ahead_of_high pm_owned_ahead_of_high an_owned_ahead_of_high cd_owned_ahead_of_high ct_owned_ahead_of_high), sl_owned_ahead_of_high⟩) (c_owned_ahead_of_high : PySem.W.codeIn K cd_owned_ahead_of_high "owned_ahead_of_high" = true) (k_owned_ahead_of_high : PySem.W.keepIn K (.ref f_owned_ahead_of_high) = true)
    {f_counted_at : Addr} {od_counted_at an_counted_at : Option Addr} {sl_counted_at : Array (Option Value)} {oc_counted_at kV_counted_at dc_counted_at pm_counted_at cd_counted_at ct_counted_at : Value}
    (a_counted_at : PySem.W.nsIn K mainGlobals "counted_at" = some (some (.ref f_counted_at))) (l_counted_at : K.lookup f_counted_at = some ⟨oc_counted_at, od_counted_at, .func (PySem.W.fnOf "counted_at" "counted_at" (defArgs s_counted_at) (defBody s_counted_at) (defScope s_counted_at) .none kV_counted_at dc_counted_at pm_counted_at an_counted_at cd_counted_at ct_counted_at), sl_counted_at⟩) (c_counted_at : PySem.W.codeIn K cd_counted_at "counted_at" = true) (k_counted_at : PySem.W.keepIn K (.ref f_counted_at) = true)
    {f_room_at : Addr} {od_room_at an_room_at : Option Addr} {sl_room_at : Array (Option Value)} {oc_room_at kV_room_at dc_room_at pm_room_at cd_room_at ct_room_at : Value}
    (a_room_at : PySem.W.nsIn K mainGlobals "room_at" = some (some (.ref f_room_at))) (l_room_at : K.lookup f_room_at = some ⟨oc_room_at, od_room_at, .func (PySem.W.fnOf "room_at" "room_at" (defArgs s_room_at) (defBody s_room_at) (defScope s_room_at) .none kV_room_at dc_room_at pm_room_at an_room_at cd_room_at ct_room_at), sl_room_at⟩) (c_room_at : PySem.W.codeIn K cd_room_at "room_at" = true) (k_room_at : PySem.W.keepIn K (.ref f_room_at) = true)
    {f_nth_mark : Addr} {od_nth_mark an_nth_mark : Option Addr} {sl_nth_mark : Array (Option Value)} {oc_nth_mark kV_nth_mark dc_nth_mark pm_nth_mark cd_nth_mark ct_nth_mark : Value}
    (a_nth_mark : PySem.W.nsIn K mainGlobals "nth_mark" = some (some (.ref f_nth_mark))) (l_nth_mark : K.lookup f_nth_mark = some ⟨oc_nth_mark, od_nth_mark, .func (PySem.W.fnOf "nth_mark" "nth_mark" (defArgs s_nth_mark) (defBody s_nth_mark) (defScope s_nth_mark) .none kV_nth_mark dc_nth_mark pm_nth_mark an_nth_mark cd_nth_mark ct_nth_mark), sl_nth_mark⟩) (c_nth_mark : PySem.W.codeIn K cd_nth_mark "nth_mark" = true) (k_nth_mark : PySem.W.keepIn K (.ref f_nth_mark) = true)
    {f_least_counted : Addr} {od_least_counted an_least_counted : Option Addr} {sl_least_counted : Array (Option Value)} {oc_least_counted kV_least_counted dc_least_counted pm_least_counted cd_least_counted ct_least_counted : Value}
    (a_least_counted : PySem.W.nsIn K mainGlobals "least_counted" = some (some (.ref f_least_counted))) (l_least_counted : K.lookup f_least_counted = some ⟨oc_least_counted, od_least_counted, .func (PySem.W.fnOf "least_counted" "least_counted" (defArgs s_least_counted) (defBody s_least_counted) (defScope s_least_counted) .none kV_least_counted dc_least_counted pm_least_counted an_least_counted cd_least_counted ct_least_counted), sl_least_counted⟩) (c_least_counted : PySem.W.codeIn K cd_least_counted "least_counted" = true) (k_least_counted : PySem.W.keepIn K (.ref f_least_counted) = true)
    {f_least_long : Addr} {od_least_long an_least_long : Option Addr} {sl_least_long : Array (Option Value)} {oc_least_long kV_least_long dc_least_long pm_least_long cd_least_long ct_least_long : Value}
    (a_least_long : PySem.W.nsIn K mainGlobals "least_long" = some (some (.ref f_least_long))) (l_least_long : K.lookup f_least_long = some ⟨oc_least_long, od_least_long, .func (PySem.W.fnOf "least_long" "least_long" (defArgs s_least_long) (defBody s_least_long) (defScope s_least_long) .none kV_least_long dc_least_long pm_least_long an_least_long cd_least_long ct_least_long), sl_least_long⟩) (c_least_long : PySem.W.codeIn K cd_least_long "least_long" = true) (k_least_long : PySem.W.keepIn K (.ref f_least_long) = true)
    {f_told_number : Addr} {od_told_number an_told_number : Option Addr} {sl_told_number : Array (Option Value)} {oc_told_number kV_told_number dc_told_number pm_told_number cd_told_number ct_told_number : Value}
    (a_told_number : PySem.W.nsIn K mainGlobals "told_number" = some (some (.ref f_told_number))) (l_told_number : K.lookup f_told_number = some ⟨oc_told_number, od_told_number, .func (PySem.W.fnOf "told_number" "told_number" (defArgs s_told_number) (defBody s_told_number) (defScope s_told_number) .none kV_told_number dc_told_number pm_told_number an_told_number cd_told_number ct_told_number), sl_told_number⟩) (c_told_number : PySem.W.codeIn K cd_told_number "told_number" = true) (k_told_number : PySem.W.keepIn K (.ref f_told_number) = true)
    {f_mark_between : Addr} {od_mark_between an_mark_between : Option Addr} {sl_mark_between : Array (Option Value)} {oc_mark_between kV_mark_between dc_mark_between pm_mark_between cd_mark_between ct_mark_between : Value}
    (a_mark_between : PySem.W.nsIn K mainGlobals "mark_between" = some (some (.ref f_mark_between))) (l_mark_between : K.lookup f_mark_between = some ⟨oc_mark_between, od_mark_between, .func (PySem.W.fnOf "mark_between" "mark_between" (defArgs s_mark_between) (defBody s_mark_between) (defScope s_mark_between) .none kV_mark_between dc_mark_between pm_mark_between an_mark_between cd_mark_between ct_mark_between), sl_mark_between⟩) (c_mark_between : PySem.W.codeIn K cd_mark_between "mark_between" = true) (k_mark_between : PySem.W.keepIn K (.ref f_mark_between) = true)
    {f_spread : Addr} {od_spread an_spread : Option Addr} {sl_spread : Array (Option Value)} {oc_spread kV_spread dc_spread pm_spread cd_spread ct_spread : Value}
    (a_spread : PySem.W.nsIn K mainGlobals "spread" = some (some (.ref f_spread))) (l_spread : K.lookup f_spread = some ⟨oc_spread, od_spread, .func (PySem.W.fnOf "spread" "spread" (defArgs s_spread) (defBody s_spread) (defScope s_spread) .none kV_spread dc_spread pm_spread an_spread cd_spread ct_spread), sl_spread⟩) (c_spread : PySem.W.codeIn K cd_spread "spread" = true) (k_spread : PySem.W.keepIn K (.ref f_spread) = true)
    {f_run_between : Addr} {od_run_between an_run_between : Option Addr} {sl_run_between : Array (Option Value)} {oc_run_between kV_run_between dc_run_between pm_run_between cd_run_between ct_run_between : Value}
    (a_run_between : PySem.W.nsIn K mainGlobals "run_between" = some (some (.ref f_run_between))) (l_run_between : K.lookup f_run_between = some ⟨oc_run_between, od_run_between, .func (PySem.W.fnOf "run_between" "run_between" (defArgs s_run_between) (defBody s_run_between) (defScope s_run_between) .none kV_run_between dc_run_between pm_run_between an_run_between cd_run_between ct_run_between), sl_run_between⟩) (c_run_between : PySem.W.codeIn K cd_run_between "run_between" = true) (k_run_between : PySem.W.keepIn K (.ref f_run_between) = true)
    {f_draw : Addr} {od_draw an_draw : Option Addr} {sl_draw : Array (Option Value)} {oc_draw kV_draw dc_draw pm_draw cd_draw ct_draw : Value}
    (a_draw : PySem.W.nsIn K mainGlobals "_law_draw" = some (some (.ref f_draw))) (l_draw : K.lookup f_draw = some ⟨oc_draw, od_draw, .func (PySem.W.fnOf "_law_draw" "_law_draw" (defArgs s_draw) (defBody s_draw) (defScope s_draw) .none kV_draw dc_draw pm_draw an_draw cd_draw ct_draw), sl_draw⟩) (c_draw : PySem.W.codeIn K cd_draw "_law_draw" = true) (k_draw : PySem.W.keepIn K (.ref f_draw) = true)
    {f_mark : Addr} {od_mark an_mark : Option Addr} {sl_mark : Array (Option Value)} {oc_mark kV_mark dc_mark pm_mark cd_mark ct_mark : Value}
    (a_mark : PySem.W.nsIn K mainGlobals "_law_mark" = some (some (.ref f_mark))) (l_mark : K.lookup f_mark = some ⟨oc_mark, od_mark, .func (PySem.W.fnOf "_law_mark" "_law_mark" (defArgs s_mark) (defBody s_mark) (defScope s_mark) .none kV_mark dc_mark pm_mark an_mark cd_mark ct_mark), sl_mark⟩) (c_mark : PySem.W.codeIn K cd_mark "_law_mark" = true) (k_mark : PySem.W.keepIn K (.ref f_mark) = true)
    {f_pair : Addr} {od_pair an_pair : Option Addr} {sl_pair : Array (Option Value)} {oc_pair kV_pair dc_pair pm_pair cd_pair ct_pair : Value}
    (a_pair : PySem.W.nsIn K mainGlobals "_law_pair" = some (some (.ref f_pair))) (l_pair : K.lookup f_pair = some ⟨oc_pair, od_pair, .func (PySem.W.fnOf "_law_pair" "_law_pair" (defArgs s_pair) (defBody s_pair) (defScope s_pair) .none kV_pair dc_pair pm_pair an_pair cd_pair ct_pair), sl_pair⟩) (c_pair : PySem.W.codeIn K cd_pair "_law_pair" = true) (k_pair : PySem.W.keepIn K (.ref f_pair) = true)
    {f_whole : Addr} {od_whole an_whole : Option Addr} {sl_whole : Array (Option Value)} {oc_whole kV_whole dc_whole pm_whole cd_whole ct_whole : Value}
    (a_whole : PySem.W.nsIn K mainGlobals "_law_whole" = some (some (.ref f_whole))) (l_whole : K.lookup f_whole = some ⟨oc_whole, od_whole, .func (PySem.W.fnOf "_law_whole" "_law_whole" (defArgs s_whole) (defBody s_whole) (defScope s_whole) .none kV_whole dc_whole pm_whole an_whole cd_whole ct_whole), sl_whole⟩) (c_whole : PySem.W.codeIn K cd_whole "_law_whole" = true) (k_whole : PySem.W.keepIn K (.ref f_whole) = true)
    {f_many : Addr} {od_many an_many : Option Addr} {sl_many : Array (Option Value)} {oc_many kV_many dc_many pm_many cd_many ct_many : Value}
    (a_many : PySem.W.nsIn K mainGlobals "_law_many" = some (some (.ref f_many))) (l_many : K.lookup f_many = some ⟨oc_many, od_many, .func (PySem.W.fnOf "_law_many" "_law_many" (defArgs s_many) (defBody s_many) (defScope s_many) .none kV_many dc_many pm_many an_many cd_many ct_many), sl_many⟩) (c_many : PySem.W.codeIn K cd_many "_law_many" = true) (k_many : PySem.W.keepIn K (.ref f_many) = true)
    {f_room : Addr} {od_room an_room : Option Addr} {sl_room : Array (Option Value)} {oc_room kV_room dc_room pm_room cd_room ct_room : Value}
    (a_room : PySem.W.nsIn K mainGlobals "_law_room" = some (some (.ref f_room))) (l_room : K.lookup f_room = some ⟨oc_room, od_room, .func (PySem.W.fnOf "_law_room" "_law_room" (defArgs s_room) (defBody s_room) (defScope s_room) .none kV_room dc_room pm_room an_room cd_room ct_room), sl_room⟩) (c_room : PySem.W.codeIn K cd_room "_law_room" = true) (k_room : PySem.W.keepIn K (.ref f_room) = true)
    {f_good : Addr} {od_good an_good : Option Addr} {sl_good : Array (Option Value)} {oc_good kV_good dc_good pm_good cd_good ct_good : Value}
    (a_good : PySem.W.nsIn K mainGlobals "_law_good" = some (some (.ref f_good))) (l_good : K.lookup f_good = some ⟨oc_good, od_good, .func (PySem.W.fnOf "_law_good" "_law_good" (defArgs s_good) (defBody s_good) (defScope s_good) .none kV_good dc_good pm_good an_good cd_good ct_good), sl_good⟩) (c_good : PySem.W.codeIn K cd_good "_law_good" = true) (k_good : PySem.W.keepIn K (.ref f_good) = true)
    {f_refused : Addr} {od_refused an_refused : Option Addr} {sl_refused : Array (Option Value)} {oc_refused kV_refused dc_refused pm_refused cd_refused ct_refused : Value}
    (a_refused : PySem.W.nsIn K mainGlobals "_law_refused" = some (some (.ref f_refused))) (l_refused : K.lookup f_refused = some ⟨oc_refused, od_refused, .func (PySem.W.fnOf "_law_refused" "_law_refused" (defArgs s_refused) (defBody s_refused) (defScope s_refused) .none kV_refused dc_refused pm_refused an_refused cd_refused ct_refused), sl_refused⟩) (c_refused : PySem.W.codeIn K cd_refused "_law_refused" = true) (k_refused : PySem.W.keepIn K (.ref f_refused) = true)
    {f_law : Addr} {od_law an_law : Option Addr} {sl_law : Array (Option Value)} {oc_law kV_law dc_law pm_law cd_law ct_law : Value}
    (a_law : PySem.W.nsIn K mainGlobals "law" = some (some (.ref f_law))) (l_law : K.lookup f_law = some ⟨oc_law, od_law, .func (PySem.W.fnOf "law" "law" (defArgs s_law) (defBody s_law) (defScope s_law) .none kV_law dc_law pm_law an_law cd_law ct_law), sl_law⟩) (c_law : PySem.W.codeIn K cd_law "law" = true) (k_law : PySem.W.keepIn K (.ref f_law) = true)
    {c_NoRoom : Addr} (ac_NoRoom : PySem.W.nsIn K mainGlobals "NoRoom" = some (some (.ref c_NoRoom))) (xc_NoRoom : PySem.W.excIn K c_NoRoom [.type "ValueError", .type "Exception", .type "BaseException", .type "object"] "ValueError.__new__" = true)
    {c_ShelfError : Addr} (ac_ShelfError : PySem.W.nsIn K mainGlobals "ShelfError" = some (some (.ref c_ShelfError))) (xc_ShelfError : PySem.W.excIn K c_ShelfError [.type "ValueError", .type "Exception", .type "BaseException", .type "object"] "ValueError.__new__" = true)
    (sc_NoRoom_ShelfError : PySem.W.mroIn K c_NoRoom (.ref c_ShelfError) = some true)
    {t_SMALL : Tok} (q_SMALL : PySem.W.nsIn K mainGlobals "SMALL" = some (some (.str "abcdefghijklmnopqrstuvwxyz" t_SMALL)))
    (z_int : PySem.W.nsIn K mainGlobals "int" = some none)
    (z_isinstance : PySem.W.nsIn K mainGlobals "isinstance" = some none)
    (z_len : PySem.W.nsIn K mainGlobals "len" = some none)
    (z_list : PySem.W.nsIn K mainGlobals "list" = some none)
    (z_max : PySem.W.nsIn K mainGlobals "max" = some none)
    (z_min : PySem.W.nsIn K mainGlobals "min" = some none)
    (z_range : PySem.W.nsIn K mainGlobals "range" = some none)
    : ∃ a : Ad, Tx K mg a ∧ mg "law" = some (.ref a.f_law) ∧ ∀ (s : Shared) (v : Value), BindsTo s a.fd_law ⟨[v], []⟩ [("_law_script", v)] := by
  have F_power := fun_mk (st := s_power) l_power c_power k_power
  have b_power := F_power.binds (ps := ["letters", "long"]) fun _ _ _ _ _ _ us hl => match us, hl with | [_, _], _ => rfl
  have F_figure_at := fun_mk (st := s_figure_at) l_figure_at c_figure_at k_figure_at
  have b_figure_at := F_figure_at.binds (ps := ["mark", "place"]) fun _ _ _ _ _ _ us hl => match us, hl with | [_, _], _ => rfl
  have F_whole_of := fun_mk (st := s_whole_of) l_whole_of c_whole_of k_whole_of
  have b_whole_of := F_whole_of.binds (ps := ["letters", "mark", "long"]) fun _ _ _ _ _ _ us hl => match us, hl with | [_, _, _], _ => rfl
  have F_mark_of := fun_mk (st := s_mark_of) l_mark_of c_mark_of k_mark_of
  have b_mark_of := F_mark_of.binds (ps := ["letters", "number", "long"]) fun _ _ _ _ _ _ us hl => match us, hl with | [_, _, _], _ => rfl
  have F_ends_of := fun_mk (st := s_ends_of) l_ends_of c_ends_of k_ends_of
  have b_ends_of := F_ends_of.binds (ps := ["letters", "hands", "hand"]) fun _ _ _ _ _ _ us hl => match us, hl with | [_, _, _], _ => rfl
  have F_ask_room := fun_mk (st := s_ask_room) l_ask_room c_ask_room k_ask_room
  have b_ask_room := F_ask_room.binds (ps := ["low", "high"]) fun _ _ _ _ _ _ us hl => match us, hl with | [_, _], _ => rfl
  have F_high_whole_of := fun_mk (st := s_high_whole_of) l_high_whole_of c_high_whole_of k_high_whole_of
  have b_high_whole_of := F_high_whole_of.binds (ps := ["letters", "high", "long"]) fun _ _ _ _ _ _ us hl => match us, hl with | [_, _, _], _ => rfl
  have F_owned_below := fun_mk (st := s_owned_below) l_owned_below c_owned_below k_owned_below
  have b_owned_below := F_owned_below.binds (ps := ["letters", "ends", "number"]) fun _ _ _ _ _ _ us hl => match us, hl with | [_, _, _], _ => rfl
  have F_owned_up_to_low := fun_mk (st := s_owned_up_to_low) l_owned_up_to_low c_owned_up_to_low k_owned_up_to_low
  have b_owned_up_to_low := F_owned_up_to_low.binds (ps := ["letters", "ends", "low_whole"]) fun _ _ _ _ _ _ us hl => match us, hl with | [_, _, _], _ => rfl
  have F_owned_ahead_of_high := fun_mk (st := s_owned_ahead_of_high) l_owned_ahead_of_high c_owned_ahead_of_high k_owned_ahead_of_high
  have b_owned_ahead_of_high := F_owned_ahead_of_high.binds (ps := ["letters", "ends", "high", "high_whole", "long", "beginnings"]) fun _ _ _ _ _ _ us hl => match us, hl with | [_, _, _, _, _, _], _ => rfl
  have F_counted_at := fun_mk (st := s_counted_at) l_counted_at c_counted_at k_counted_at
  have b_counted_at := F_counted_at.binds (ps := ["letters", "ends", "low", "high", "long", "beginnings"]) fun _ _ _ _ _ _ us hl => match us, hl with | [_, _, _, _, _, _], _ => rfl
  have F_room_at := fun_mk (st := s_room_at) l_room_at c_room_at k_room_at
  have b_room_at := F_room_at.binds (ps := ["letters", "hands", "hand", "low", "high", "long"]) fun _ _ _ _ _ _ us hl => match us, hl with | [_, _, _, _, _, _], _ => rfl
  have F_nth_mark := fun_mk (st := s_nth_mark) l_nth_mark c_nth_mark k_nth_mark
  have b_nth_mark := F_nth_mark.binds (ps := ["letters", "hands", "hand", "low", "high", "long", "number"]) fun _ _ _ _ _ _ us hl => match us, hl with | [_, _, _, _, _, _, _], _ => rfl
  have F_least_counted := fun_mk (st := s_least_counted) l_least_counted c_least_counted k_least_counted
  have b_least_counted := F_least_counted.binds (ps := ["letters", "ends", "low", "high", "many", "beginnings"]) fun _ _ _ _ _ _ us hl => match us, hl with | [_, _, _, _, _, _], _ => rfl
  have F_least_long := fun_mk (st := s_least_long) l_least_long c_least_long k_least_long
  have b_least_long := F_least_long.binds (ps := ["letters", "hands", "hand", "low", "high", "many"]) fun _ _ _ _ _ _ us hl => match us, hl with | [_, _, _, _, _, _], _ => rfl
  have F_told_number := fun_mk (st := s_told_number) l_told_number c_told_number k_told_number
  have b_told_number := F_told_number.binds (ps := ["low", "high", "many"]) fun _ _ _ _ _ _ us hl => match us, hl with | [_, _, _], _ => rfl
  have F_mark_between := fun_mk (st := s_mark_between) l_mark_between c_mark_between k_mark_between
  have b_mark_between := F_mark_between.binds (ps := ["letters", "hands", "hand", "low", "high"]) fun _ _ _ _ _ _ us hl => match us, hl with | [_, _, _, _, _], _ => rfl
  have F_spread := fun_mk (st := s_spread) l_spread c_spread k_spread
  have b_spread := F_spread.binds (ps := ["many", "whole"]) fun _ _ _ _ _ _ us hl => match us, hl with | [_, _], _ => rfl
  have F_run_between := fun_mk (st := s_run_between) l_run_between c_run_between k_run_between
  have b_run_between := F_run_between.binds (ps := ["letters", "hands", "hand", "low", "high", "many"]) fun _ _ _ _ _ _ us hl => match us, hl with | [_, _, _, _, _, _], _ => rfl
  have F_draw := fun_mk (st := s_draw) l_draw c_draw k_draw
  have b_draw := F_draw.binds (ps := ["_law_script", "_law_k", "_law_many_here"]) fun _ _ _ _ _ _ us hl => match us, hl with | [_, _, _], _ => rfl
  have F_mark := fun_mk (st := s_mark) l_mark c_mark k_mark
  have b_mark := F_mark.binds (ps := ["_law_script", "_law_base", "_law_letters"]) fun _ _ _ _ _ _ us hl => match us, hl with | [_, _, _], _ => rfl
  have F_pair := fun_mk (st := s_pair) l_pair c_pair k_pair
  have b_pair := F_pair.binds (ps := ["_law_script", "_law_letters"]) fun _ _ _ _ _ _ us hl => match us, hl with | [_, _], _ => rfl
  have F_whole := fun_mk (st := s_whole) l_whole c_whole k_whole
  have b_whole := F_whole.binds (ps := ["_law_letters", "_law_mark_here", "_law_long"]) fun _ _ _ _ _ _ us hl => match us, hl with | [_, _, _], _ => rfl
  have F_many := fun_mk (st := s_many) l_many c_many k_many
  have b_many := F_many.binds (ps := ["_law_letters", "_law_ends", "_law_least", "_law_most"]) fun _ _ _ _ _ _ us hl => match us, hl with | [_, _, _, _], _ => rfl
  have F_room := fun_mk (st := s_room) l_room c_room k_room
  have b_room := F_room.binds (ps := ["_law_letters", "_law_ends", "_law_low", "_law_high", "_law_long"]) fun _ _ _ _ _ _ us hl => match us, hl with | [_, _, _, _, _], _ => rfl
  have F_good := fun_mk (st := s_good) l_good c_good k_good
  have b_good := F_good.binds (ps := ["_law_letters", "_law_ends", "_law_low", "_law_high", "_law_marks"]) fun _ _ _ _ _ _ us hl => match us, hl with | [_, _, _, _, _], _ => rfl
  have F_refused := fun_mk (st := s_refused) l_refused c_refused k_refused
  have b_refused := F_refused.binds (ps := ["_law_letters", "_law_hands", "_law_hand", "_law_low", "_law_high", "_law_many_here"]) fun _ _ _ _ _ _ us hl => match us, hl with | [_, _, _, _, _, _], _ => rfl
  have F_law := fun_mk (st := s_law) l_law c_law k_law
  have b_law := F_law.binds (ps := ["_law_script"]) fun _ _ _ _ _ _ us hl => match us, hl with | [_], _ => rfl
  exact ⟨⟨c_NoRoom, c_ShelfError, f_power, f_figure_at, f_whole_of, f_mark_of, f_ends_of, f_ask_room, f_high_whole_of, f_owned_below, f_owned_up_to_low, f_owned_ahead_of_high, f_counted_at, f_room_at, f_nth_mark, f_least_counted, f_least_long, f_told_number, f_mark_between, f_spread, f_run_between, f_draw, f_mark, f_pair, f_whole, f_many, f_room, f_good, f_refused, f_law, _, _, _, _, _, _, _, _, _, _, _, _, _, _, _, _, _, _, _, _, _, _, _, _, _, _, _, _⟩, ⟨PySem.W.mg_none_of X G z_int, PySem.W.mg_none_of X G z_isinstance, PySem.W.mg_none_of X G z_len, PySem.W.mg_none_of X G z_list, PySem.W.mg_none_of X G z_max, PySem.W.mg_none_of X G z_min, PySem.W.mg_none_of X G z_range, ⟨_, PySem.W.mg_of X G q_SMALL⟩, PySem.W.mg_of X G ac_NoRoom, xc_NoRoom, PySem.W.mg_of X G ac_ShelfError, xc_ShelfError, sc_NoRoom_ShelfError, PySem.W.mg_of X G a_power, F_power, b_power, PySem.W.mg_of X G a_figure_at, F_figure_at, b_figure_at, PySem.W.mg_of X G a_whole_of, F_whole_of, b_whole_of, PySem.W.mg_of X G a_mark_of, F_mark_of, b_mark_of, PySem.W.mg_of X G a_ends_of, F_ends_of, b_ends_of, PySem.W.mg_of X G a_ask_room, F_ask_room, b_ask_room, PySem.W.mg_of X G a_high_whole_of, F_high_whole_of, b_high_whole_of, PySem.W.mg_of X G a_owned_below, F_owned_below, b_owned_below, PySem.W.mg_of X G a_owned_up_to_low, F_owned_up_to_low, b_owned_up_to_low, PySem.W.mg_of X G a_owned_ahead_of_high, F_owned_ahead_of_high, b_owned_ahead_of_high, PySem.W.mg_of X G a_counted_at, F_counted_at, b_counted_at, PySem.W.mg_of X G a_room_at, F_room_at, b_room_at, PySem.W.mg_of X G a_nth_mark, F_nth_mark, b_nth_mark, PySem.W.mg_of X G a_least_counted, F_least_counted, b_least_counted, PySem.W.mg_of X G a_least_long, F_least_long, b_least_long, PySem.W.mg_of X G a_told_number, F_told_number, b_told_number, PySem.W.mg_of X G a_mark_between, F_mark_between, b_mark_between, PySem.W.mg_of X G a_spread, F_spread, b_spread, PySem.W.mg_of X G a_run_between, F_run_between, b_run_between, PySem.W.mg_of X G a_draw, F_draw, b_draw, PySem.W.mg_of X G a_mark, F_mark, b_mark, PySem.W.mg_of X G a_pair, F_pair, b_pair, PySem.W.mg_of X G a_whole, F_whole, b_whole, PySem.W.mg_of X G a_many, F_many, b_many, PySem.W.mg_of X G a_room, F_room, b_room, PySem.W.mg_of X G a_good, F_good, b_good, PySem.W.mg_of X G a_refused, F_refused, b_refused, PySem.W.mg_of X G a_law, F_law, b_law⟩, PySem.W.mg_of X G a_law, fun s v => .of_eq rfl⟩
theorem walk {l : PySem.W.OpenLaw} {q : Program} {loose : List Str} {XP : (Str → Option Value) → Heap → Prop} {YP : World → Heap → Prop} {d : DefRec} {K : Params → PySem.W.Frag} (hn : l.most = some 63) (hdf : d.params.defaults = [])
    (hY : ∀ (w : World) (h : Heap), YP w h → (K w.params).In h)
    (F : ∀ (w : World) (mg : Str → Option Value) (fa : Addr) (h : Heap), (K w.params).In h → h.Ns mainGlobals mg → mg d.name = some (.ref fa) →
      ∃ fd : FuncData, (∀ (s : Shared) (u : Value), BindsTo s fd ⟨[u], []⟩ [("_law_script", u)]) ∧ ∀ base : Heap, (K w.params).In base → base.Ns mainGlobals mg → FnOk l.prog w (K w.params) mg base CX0 8 fa fd ["_law_script"] (spLaw (K w.params))) :
    PySem.W.WalkO q loose XP YP l.row.toRowW d [] (fun f vs => PySem.call f vs) :=
  L2.walk_of (n := 63) (k := 8) (x := "_law_script") (CX := fun _ => CX0) (sp := fun w => spLaw (K w.params)) hn (by decide) hdf ⟨rfl, by decide, by decide⟩ hY F (fun _ _ a ns hl _ hS => ⟨a, ns, rfl, hS, hl, fun _ => rfl⟩) fun _ _ _ _ _ z => z
end K07
open PySem PySem.W PyProof.Rows
set_option maxRecDepth 100000 in
set_option maxHeartbeats 0 in
theorem PySem.Challenge.cw_shelfmark_k07_runs_holds : PySem.Challenge.rw_shelfmark_k07_runs.Holds := by
  w_on; o_law; k_head; (case hw => w_witness2)
  k_fill
  refine K07.walk (l := PySem.Challenge.rw_shelfmark_k07_runs) rfl rfl (fun w h Y => PySem.W.kIn_of Y) ?F
  case F =>
    intro w mg fa h KX G hmg
    have M : ∃ a : K07.Ad, K07.Tx (L2.KOf KX) mg a ∧ mg "law" = some (.ref a.f_law) ∧ ∀ (s : Shared) (v : Value), BindsTo s a.fd_law ⟨[v], []⟩ [("_law_script", v)] := by
      dsimp only [L2.KOf]
      refine' K07.tx_mk KX G ?a_power ?l_power ?c_power ?k_power ?a_figure_at ?l_figure_at ?c_figure_at ?k_figure_at ?a_whole_of ?l_whole_of ?c_whole_of ?k_whole_of ?a_mark_of ?l_mark_of ?c_mark_of ?k_mark_of ?a_ends_of ?l_ends_of ?c_ends_of ?k_ends_of ?a_ask_room ?l_ask_room ?c_ask_room ?k_ask_room ?a_high_whole_of ?l_high_whole_of ?c_high_whole_of ?k_high_whole_of ?a_owned_below ?l_owned_below ?c_owned_below ?k_owned_below ?a_owned_up_to_low ?l_owned_up_to_low ?c_owned_up_to_low ?k_owned_up_to_low ?a_owned_ahead_of_high ?l_owned_ahead_of_high ?c_owned_ahead_of_high ?k_owned_ahead_of_high ?a_counted_at ?l_counted_at ?c_counted_at ?k_counted_at ?a_room_at ?l_room_at ?c_room_at ?k_room_at ?a_nth_mark ?l_nth_mark ?c_nth_mark ?k_nth_mark ?a_least_counted ?l_least_counted ?c_least_counted ?k_least_counted ?a_least_long ?l_least_long ?c_least_long ?k_least_long ?a_told_number ?l_told_number ?c_told_number ?k_told_number ?a_mark_between ?l_mark_between ?c_mark_between ?k_mark_between ?a_spread ?l_spread ?c_spread ?k_spread ?a_run_between ?l_run_between ?c_run_between ?k_run_between ?a_draw ?l_draw ?c_draw ?k_draw ?a_mark ?l_mark ?c_mark ?k_mark ?a_pair ?l_pair ?c_pair ?k_pair ?a_whole ?l_whole ?c_whole ?k_whole ?a_many ?l_many ?c_many ?k_many ?a_room ?l_room ?c_room ?k_room ?a_good ?l_good ?c_good ?k_good ?a_refused ?l_refused ?c_refused ?k_refused ?a_law ?l_law ?c_law ?k_law ?ac_NoRoom ?xc_NoRoom ?ac_ShelfError ?xc_ShelfError ?sc_NoRoom_ShelfError ?q_SMALL ?z_int ?z_isinstance ?z_len ?z_list ?z_max ?z_min ?z_range
      (case a_power => k_is)
      (case l_power => k_is)
      (case c_power => k_is)
      (case k_power => k_is)
      (case a_figure_at => k_is)
      (case l_figure_at => k_is)
      (case c_figure_at => k_is)
      (case k_figure_at => k_is)
      (case a_whole_of => k_is)
      (case l_whole_of => k_is)
      (case c_whole_of => k_is)
      (case k_whole_of => k_is)
      (case a_mark_of => k_is)
      (case l_mark_of => k_is)
      (case c_mark_of => k_is)
      (case k_mark_of => k_is)
      (case a_ends_of => k_is)
      (case l_ends_of => k_is)
      (case c_ends_of => k_is)
      (case k_ends_of => k_is)
      (case a_ask_room => k_is)
      (case l_ask_room => k_is)
      (case c_ask_room => k_is)
      (case k_ask_room => k_is)
      (case a_high_whole_of => k_is)
      (case l_high_whole_of => k_is)
      (case c_high_whole_of => k_is)
      (case k_high_whole_of => k_is)
      (case a_owned_below => k_is)
      (case l_owned_below => k_is)
      (case c_owned_below => k_is)
      (case k_owned_below => k_is)
      (case a_owned_up_to_low => k_is)
      (case l_owned_up_to_low => k_is)
      (case c_owned_up_to_low => k_is)
      (case k_owned_up_to_low => k_is)
      (case a_owned_ahead_of_high => k_is)
      (case l_owned_ahead_of_high => k_is)
      (case c_owned_ahead_of_high => k_is)
      (case k_owned_ahead_of_high => k_is)
      (case a_counted_at => k_is)
      (case l_counted_at => k_is)
      (case c_counted_at => k_is)
      (case k_counted_at => k_is)
      (case a_room_at => k_is)
      (case l_room_at => k_is)
      (case c_room_at => k_is)
      (case k_room_at => k_is)
      (case a_nth_mark => k_is)
      (case l_nth_mark => k_is)
      (case c_nth_mark => k_is)
      (case k_nth_mark => k_is)
      (case a_least_counted => k_is)
      (case l_least_counted => k_is)
      (case c_least_counted => k_is)
      (case k_least_counted => k_is)
      (case a_least_long => k_is)
      (case l_least_long => k_is)
      (case c_least_long => k_is)
      (case k_least_long => k_is)
      (case a_told_number => k_is)
      (case l_told_number => k_is)
      (case c_told_number => k_is)
      (case k_told_number => k_is)
      (case a_mark_between => k_is)
      (case l_mark_between => k_is)
      (case c_mark_between => k_is)
      (case k_mark_between => k_is)
      (case a_spread => k_is)
      (case l_spread => k_is)
      (case c_spread => k_is)
      (case k_spread => k_is)
      (case a_run_between => k_is)
      (case l_run_between => k_is)
      (case c_run_between => k_is)
      (case k_run_between => k_is)
      (case a_draw => k_is)
      (case l_draw => k_is)
      (case c_draw => k_is)
      (case k_draw => k_is)
      (case a_mark => k_is)
      (case l_mark => k_is)
      (case c_mark => k_is)
      (case k_mark => k_is)
      (case a_pair => k_is)
      (case l_pair => k_is)
      (case c_pair => k_is)
      (case k_pair => k_is)
      (case a_whole => k_is)
      (case l_whole => k_is)
      (case c_whole => k_is)
      (case k_whole => k_is)
      (case a_many => k_is)
      (case l_many => k_is)
      (case c_many => k_is)
      (case k_many => k_is)
      (case a_room => k_is)
      (case l_room => k_is)
      (case c_room => k_is)
      (case k_room => k_is)
      (case a_good => k_is)
      (case l_good => k_is)
      (case c_good => k_is)
      (case k_good => k_is)
      (case a_refused => k_is)
      (case l_refused => k_is)
      (case c_refused => k_is)
      (case k_refused => k_is)
      (case a_law => k_is)
      (case l_law => k_is)
      (case c_law => k_is)
      (case k_law => k_is)
      (case ac_NoRoom => k_is)
      (case xc_NoRoom => k_exc)
      (case ac_ShelfError => k_is)
      (case xc_ShelfError => k_exc)
      (case sc_NoRoom_ShelfError => k_is)
      (case q_SMALL => k_is)
      (case z_int => k_is)
      (case z_isinstance => k_is)
      (case z_len => k_is)
      (case z_list => k_is)
      (case z_max => k_is)
      (case z_min => k_is)
      (case z_range => k_is)
    obtain ⟨a, T, hl, hb⟩ := M
    have e0 := hmg.symm.trans hl
    cases e0
    exact ⟨_, hb, fun base _ _ => K07.ok_law T⟩

