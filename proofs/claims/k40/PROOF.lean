import PyProof.Rows.All
import Wide.All
import OpenK.AllK
import Wide.FinOn
import Lean
import PyProof.EqAt
import PyProof.EqKinds
import PyProof.TupleCall
import KE.IntBitsLaws
import PySem.Challenge.RW_shelfmark_k40_rows_of_renewals
set_option Elab.async false
set_option linter.all false
set_option maxRecDepth 100000
/-! THE HAND LAYER, for ints, bools, texts, own classes, LISTS and tuples (index, slices, in, append, pop ..), calls, loops. Paste it whole ahead of your own text; what your proof does not reach may be deleted. -/
namespace L2
open PySem PySem.Spec PyProof.Rows

/-- a key: an int or a str -/
abbrev Key := Sum Int Str
def keyIs : Key → Value → Bool
  | .inl k, v => Value.isInt k v
  | .inr x, v => Value.isStrOf x v
def keyH (w : World) : Key → Int
  | .inl k => hashInt k
  | .inr x => hashStr w x
theorem keyIs_shape : ∀ {k : Key} {v : Value}, keyIs k v = true → (∃ i t, k = Sum.inl i ∧ v = Value.int i t) ∨ (∃ x t, k = Sum.inr x ∧ v = Value.str x t)
  | .inl i, v, h => by
    obtain ⟨t, e⟩ := Value.isInt_shape (k := i) (v := v) h
    exact .inl ⟨i, t, rfl, e⟩
  | .inr x, v, h => by
    obtain ⟨t, e⟩ := Value.isStrOf_shape (x := x) (v := v) h
    exact .inr ⟨x, t, rfl, e⟩
theorem key_ll (a b : Int) : decide ((Sum.inl a : Key) = Sum.inl b) = (a == b) := by
  by_cases e : a = b
  · subst e; simp
  · have h : ¬ (Sum.inl a : Key) = Sum.inl b := fun q => e (Sum.inl.inj q)
    rw [decide_eq_false h]
    exact (beq_eq_false_iff_ne.mpr e).symm
theorem key_rr (a b : Str) : decide ((Sum.inr a : Key) = Sum.inr b) = decide (a = b) := by
  by_cases e : a = b
  · subst e; simp
  · have h : ¬ (Sum.inr a : Key) = Sum.inr b := fun q => e (Sum.inr.inj q)
    rw [decide_eq_false h, decide_eq_false e]
theorem key_lr (a : Int) (b : Str) : decide ((Sum.inl a : Key) = Sum.inr b) = false := decide_eq_false (fun q => nomatch q)
theorem key_rl (a : Str) (b : Int) : decide ((Sum.inr a : Key) = Sum.inl b) = false := decide_eq_false (fun q => nomatch q)

def mixKind (prog : Program) (w : World) : PySem.KeyKind prog w Key where
  is := keyIs
  hash := keyH w
  inj := fun v a b ha hb => by
    rcases keyIs_shape ha with ⟨i, t, rfl, rfl⟩ | ⟨x, t, rfl, rfl⟩
    · rcases keyIs_shape hb with ⟨j, u, rfl, e⟩ | ⟨y, u, rfl, e⟩
      · injection e with e1 _; rw [e1]
      · exact nomatch e
    · rcases keyIs_shape hb with ⟨j, u, rfl, e⟩ | ⟨y, u, rfl, e⟩
      · exact nomatch e
      · injection e with e1 _; rw [e1]
  byValue := fun k v h => by
    rcases keyIs_shape h with ⟨i, t, rfl, rfl⟩ | ⟨x, t, rfl, rfl⟩ <;> rfl
  pyHash := fun hv h => by
    rcases keyIs_shape hv with ⟨i, t, rfl, rfl⟩ | ⟨x, t, rfl, rfl⟩
    · exact wpAny_pyHash_int h
    · exact wpAny_pyHash_str h
  eqBool := fun hu hv h => by
    rcases keyIs_shape hu with ⟨i, t, rfl, rfl⟩ | ⟨x, t, rfl, rfl⟩
    · rcases keyIs_shape hv with ⟨j, u, rfl, rfl⟩ | ⟨y, u, rfl, rfl⟩
      · rw [key_ll] at h; exact wpAny_eqBool_int h
      · rw [key_lr] at h; exact SeqAt.EqAt.int_str i t y u _ _ _ _ h
    · rcases keyIs_shape hv with ⟨j, u, rfl, rfl⟩ | ⟨y, u, rfl, rfl⟩
      · rw [key_rl] at h; exact SeqAt.EqAt.str_int x t j u _ _ _ _ h
      · rw [key_rr] at h; exact wpAny_eqBool_str h
  «strs» := fun k x t v h => by
    rcases keyIs_shape h with ⟨i, u, rfl, e⟩ | ⟨y, u, rfl, e⟩
    · exact nomatch e
    · injection e with e1 _
      subst e1
      cases v <;> rfl

end L2

namespace L2
open PySem PySem.Spec PyProof.Rows

/-- a value, without the heap -/
inductive V where
  | non | bl (b : Bool) | int (i : Int) | str (x : Str) | byt (b : Array UInt8) | flt (b : UInt64) | ref (a : Addr) | ty (n : String)
  deriving DecidableEq

def RelV : V → Value → Prop
  | .non, u => u = Value.none
  | .bl b, u => u = Value.bool b
  | .int i, u => ∃ t, u = Value.int i t
  | .str x, u => ∃ t, u = Value.str x t
  | .byt b, u => ∃ t, u = Value.bytes b t
  | .flt b, u => ∃ t, u = Value.float b t
  | .ref a, u => u = Value.ref a
  | .ty n, u => u = Value.type n

abbrev Vals : List V → List Value → Prop := Paired RelV
theorem Vals.length {xs : List V} {us : List Value} (r : Vals xs us) : xs.length = us.length := Paired.length r
theorem Vals.get : ∀ {xs : List V} {us : List Value} {i : Nat} {x : V}, Vals xs us → xs[i]? = some x → ∃ u, us[i]? = some u ∧ RelV x u
  | _, _, _, _, .nil, e => by simp at e
  | _, _, 0, _, .cons r _, e => by simp at e; subst e; exact ⟨_, rfl, r⟩
  | _, _, i + 1, x, .cons _ t, e => by
    obtain ⟨u, h1, h2⟩ := Vals.get (i := i) (x := x) t (by simpa using e)
    exact ⟨u, by simpa using h1, h2⟩
theorem Vals.set {x : V} {u : Value} (r : RelV x u) : ∀ {xs : List V} {us : List Value} (i : Nat), Vals xs us → Vals (xs.set i x) (us.set i u)
  | _, _, _, .nil => .nil
  | _, _, 0, .cons _ t => .cons r t
  | _, _, i + 1, .cons q t => .cons q (Vals.set r i t)
theorem Vals.append : ∀ {xs ys : List V} {us ws : List Value}, Vals xs us → Vals ys ws → Vals (xs ++ ys) (us ++ ws)
  | _, _, _, _, .nil, s => s
  | _, _, _, _, .cons r t, s => .cons r (Vals.append t s)
theorem Vals.take : ∀ {xs : List V} {us : List Value} (n : Nat), Vals xs us → Vals (xs.take n) (us.take n)
  | _, _, 0, _ => .nil
  | _, _, _ + 1, .nil => .nil
  | _, _, n + 1, .cons r t => .cons r (Vals.take n t)
theorem Vals.drop : ∀ {xs : List V} {us : List Value} (n : Nat), Vals xs us → Vals (xs.drop n) (us.drop n)
  | _, _, 0, r => r
  | _, _, _ + 1, .nil => .nil
  | _, _, n + 1, .cons _ t => Vals.drop n t
def RelO : Option V → Option Value → Prop
  | some v, some u => RelV v u
  | none, none => True
  | _, _ => False
def KV {κ : Type} : List (κ × V) → List (κ × Value) → Prop := Paired fun (p : κ × V) (q : κ × Value) => p.1 = q.1 ∧ RelV p.2 q.2

/-- a key of a dict (00_mix): an int or a text -/
def kV : Key → V
  | .inl i => .int i
  | .inr x => .str x

/-- what stands at a tracked address -/
inductive HO where
  /-- a list -/
  | lst (xs : List V)
  /-- a tuple (never changes) -/
  | tup (xs : List V)
  /-- a dict whose keys are ints and texts; one whose keys are tuples of ints and texts (the empty one is both) -/
  | dK (kvs : List (Key × V)) | dT (kvs : List (List Key × V))
  /-- a set of ints: its members, its size -/
  | set (S : Int → Bool) (n : Nat)
  /-- an instance of the class at C, its dict at dx, its attributes -/
  | ins (C dx : Addr) (fs : List (Str × V))
  /-- the dict of the instance at x -/
  | own (x : Addr)
  /-- the dict of an exception -/
  | xd (fs : List (Str × V))
  /-- a bound method, f of x -/
  | met (f x : Addr)
  /-- a range object lo, lo + 1, .. below hi -/
  | rng (lo hi : Int)
  /-- a thing that is known to the object (the script; a dict while a loop walks it): read, never written while it is so -/
  | frz (o : Obj) (u : HO)
  /-- a code object's table -/
  | tbl (ps : Array Value)
  /-- any other thing, by what is true of its one object (a def of one's own: SetO a S n := HO.ext fun h => ..) -/
  | ext (φ : Heap → Prop)

abbrev Hp := Addr → Option HO
def upd (H : Hp) (a : Addr) (o : HO) : Hp := fun b => if b = a then some o else H b
theorem upd_same {H : Hp} {a : Addr} {o : HO} : upd H a o a = some o := by unfold upd; rw [if_pos rfl]
theorem upd_ne {H : Hp} {a b : Addr} {o : HO} (h : b ≠ a) : upd H a o b = H b := by unfold upd; rw [if_neg h]
theorem ne_of_none {H : Hp} {a b : Addr} {o : HO} (h : H a = some o) (h' : H b = none) : a ≠ b := by
  intro e; subst e; rw [h] at h'; cases h'

section
variable (P : Program) (w : World)
def ObjOk (H : Hp) (h : Heap) (a : Addr) : HO → Prop
  | .lst xs => xs.length ≤ sizeLine ∧ ∃ (its : List Value) (n : Nat), Vals xs its ∧ h.get? a = some { cls := .type "list", data := .seq its.toArray n }
  | .tup xs => xs.length ≤ sizeLine ∧ ∃ its : List Value, Vals xs its ∧ IsTup h a its.toArray
  | .dK kvs => kvs.length ≤ sizeLine ∧ (a == sysModules) = false ∧ ∃ vs, KV kvs vs ∧ h.DictOf (mixKind P w) a vs
  | .dT kvs => kvs.length ≤ sizeLine ∧ (a == sysModules) = false ∧ ∃ xs : List (List Key × Addr × Value),
      Paired (fun (p : List Key × V) (q : List Key × Addr × Value) => p.1 = q.1 ∧ H q.2.1 = some (.tup (p.1.map kV)) ∧ RelV p.2 q.2.2) kvs xs ∧
      ∃ o es ep, h.get? a = some o ∧ o.ExactDict ∧ o.data = .dict es ep ∧ es.toList = xs.map (entryOfKey (tupleKind (mixKind P w))) ∧ (xs.map (·.1)).Nodup
  | .set S n => h.SetOf (intKind P w) a S n
  | .ins C dx fs => H dx = some (.own a) ∧ fs.length ≤ 1000 ∧ dx ≠ a ∧ h.get? a = some (PySem.W.instObj C dx) ∧
      ∃ mA, h.Ns1 dx mA ∧ (∀ f, RelO (fs.lookup f) (mA f)) ∧ PySem.Within mA (fs.map (·.1))
  | .own _ => ∃ o, h.get? a = some o
  | .xd fs => ∃ mA, h.Ns1 a mA ∧ ∀ f, RelO (fs.lookup f) (mA f)
  | .rng lo hi => ∃ t u v, h.get? a = some { cls := .type "range", data := .fields #[.int lo t, .int hi u, .int 1 v] }
  | .frz o u => h.get? a = some o ∧ ObjOk H h a u
  | .tbl ps => h.get? a = some { cls := .none, data := .fields ps }
  | .met f x => h.get? a = some (PySem.W.methodObj (.ref f) (.ref x))
  | .ext φ => φ h ∧ (∃ o, h.get? a = some o) ∧ ∀ h1 h2 : Heap, φ h1 → (∀ o, h1.get? a = some o → h2.get? a = some o) → φ h2
/-- the abstract heap is held -/
def HOk (H : Hp) (h : Heap) : Prop := ∀ a o, H a = some o → ObjOk P w H h a o
end

section
variable {P : Program} {w : World} {H H' : Hp} {h h' : Heap} {a : Addr} {o : HO}
theorem ObjOk.lt (x : ObjOk P w H h a o) : a < h.objs.size := by
  cases o with
  | lst xs => obtain ⟨_, _, _, _, e⟩ := x; exact Heap.lt_size e
  | tup xs => obtain ⟨_, _, _, p⟩ := x; exact p.lt
  | dK kvs => obtain ⟨_, _, _, _, o, _, _, e, _⟩ := x; exact Heap.lt_size e
  | dT kvs => obtain ⟨_, _, _, _, o, _, _, e, _⟩ := x; exact Heap.lt_size e
  | set S n => obtain ⟨o, _, _, _, e, _⟩ := x; exact Heap.lt_size e
  | ins C dx fs => obtain ⟨_, _, _, e, _⟩ := x; exact Heap.lt_size e
  | own y => obtain ⟨_, e⟩ := x; exact Heap.lt_size e
  | xd fs => obtain ⟨_, ⟨_, _, _, e, _⟩, _⟩ := x; exact Heap.lt_size e
  | rng lo hi => obtain ⟨_, _, _, e⟩ := x; exact Heap.lt_size e
  | frz ob u => obtain ⟨e, _⟩ := x; exact Heap.lt_size e
  | tbl ps => exact Heap.lt_size (show h.get? a = some _ from x)
  | met f y => exact Heap.lt_size (show h.get? a = some _ from x)
  | ext φ => obtain ⟨_, ⟨_, e⟩, _⟩ := x; exact Heap.lt_size e
theorem Paired.mapP {α β : Type} {F G : α → β → Prop} : ∀ {l₁ : List α} {l₂ : List β}, Paired F l₁ l₂ → (∀ a b, F a b → G a b) → Paired G l₁ l₂
  | _, _, .nil, _ => .nil
  | _, _, .cons r t, f => .cons (f _ _ r) (Paired.mapP t f)
/-- what an object's description leans on: its own object, its own dict, the tuples -/
theorem ObjOk.stay (x : ObjOk P w H h a o) (k : ∀ b u, (b = a ∨ H b = some (.own a)) → h.get? b = some u → h'.get? b = some u)
    (ho : ∀ b, H b = some (.own a) → H' b = some (.own a)) (ht : ∀ b xs, H b = some (.tup xs) → H' b = some (.tup xs)) : ObjOk P w H' h' a o := by
  induction o with
  | lst xs => obtain ⟨z, its, n, r, e⟩ := x; exact ⟨z, its, n, r, k _ _ (.inl rfl) e⟩
  | tup xs => obtain ⟨z, its, r, ob, e, c⟩ := x; exact ⟨z, its, r, ob, k _ _ (.inl rfl) e, c⟩
  | dK kvs => obtain ⟨z, y, vs, r, ob, es, ep, e, c⟩ := x; exact ⟨z, y, vs, r, ob, es, ep, k _ _ (.inl rfl) e, c⟩
  | dT kvs =>
    obtain ⟨z, y, xs, r, ob, es, ep, e, c⟩ := x
    exact ⟨z, y, xs, Paired.mapP r fun p q z => ⟨z.1, ht _ _ z.2.1, z.2.2⟩, ob, es, ep, k _ _ (.inl rfl) e, c⟩
  | set S n => obtain ⟨ob, es, ep, t, e, c⟩ := x; exact ⟨ob, es, ep, t, k _ _ (.inl rfl) e, c⟩
  | ins C dx fs =>
    obtain ⟨d, z, ne, e, mA, ⟨od, es, ep, e2, c⟩, r⟩ := x
    exact ⟨ho _ d, z, ne, k _ _ (.inl rfl) e, mA, ⟨od, es, ep, k _ _ (.inr d) e2, c⟩, r⟩
  | own y => obtain ⟨ob, e⟩ := x; exact ⟨ob, k _ _ (.inl rfl) e⟩
  | xd fs => obtain ⟨mA, ⟨od, es, ep, e, c⟩, r⟩ := x; exact ⟨mA, ⟨od, es, ep, k _ _ (.inl rfl) e, c⟩, r⟩
  | rng lo hi => obtain ⟨t, u, v, e⟩ := x; exact ⟨t, u, v, k _ _ (.inl rfl) e⟩
  | frz ob u ih => obtain ⟨e, q⟩ := x; exact ⟨k _ _ (.inl rfl) e, ih q⟩
  | tbl ps =>
    have e : h.get? a = some { cls := .none, data := .fields ps } := x
    show h'.get? a = some { cls := .none, data := .fields ps }
    exact k a _ (.inl rfl) e
  | met f y =>
    have e : h.get? a = some (PySem.W.methodObj (.ref f) (.ref y)) := x
    show h'.get? a = some (PySem.W.methodObj (.ref f) (.ref y))
    exact k a _ (.inl rfl) e
  | ext φ => obtain ⟨p, ⟨o, e⟩, st⟩ := x; exact ⟨st _ _ p fun o q => k _ _ (.inl rfl) q, ⟨o, k _ _ (.inl rfl) e⟩, st⟩
theorem HOk.lt (x : HOk P w H h) (e : H a = some o) : a < h.objs.size := (x a o e).lt
theorem HOk.fresh (x : HOk P w H h) (e : h.objs.size ≤ a) : H a = none := by
  cases q : H a with
  | none => rfl
  | some u => exact absurd (Nat.lt_of_lt_of_le (x.lt q) e) (Nat.lt_irrefl _)
/-- every object of the heap is kept -/
theorem HOk.kept (x : HOk P w H h) (k : ∀ b u, h.get? b = some u → h'.get? b = some u) : HOk P w H h' := fun a o e =>
  (x a o e).stay (fun b u _ q => k b u q) (fun _ q => q) fun _ _ q => q
/-- a new object is laid and tracked -/
theorem HOk.laid (x : HOk P w H h) (k : ∀ b u, h.get? b = some u → h'.get? b = some u) (hp : h.objs.size ≤ a) (new : ObjOk P w (upd H a o) h' a o) : HOk P w (upd H a o) h' := fun b u e => by
  have hn := x.fresh hp
  by_cases hb : b = a
  · subst hb; rw [upd_same] at e; cases e; exact new
  · rw [upd_ne hb] at e
    exact (x b u e).stay (fun c v _ q => k c v q) (fun c q => by rw [upd_ne (ne_of_none q hn)]; exact q) fun c xs q => by rw [upd_ne (ne_of_none q hn)]; exact q
end

/-- what may be read as u: it is u, or a known u -/
def Rd (H : Hp) (a : Addr) (u : HO) : Prop := H a = some u ∨ ∃ o, H a = some (.frz o u)
theorem Rd.of {H : Hp} {a : Addr} {u : HO} (h : H a = some u) : Rd H a u := .inl h
theorem Rd.ok {P : Program} {w : World} {H : Hp} {h : Heap} {a : Addr} {u : HO} (r : Rd H a u) (x : HOk P w H h) : ObjOk P w H h a u := by
  rcases r with r | ⟨o, r⟩
  · exact x a u r
  · obtain ⟨_, q⟩ := x a _ r
    exact q
/-- what may be written -/
def Mut : Option HO → Prop
  | some (.lst _) => True
  | some (.dK _) => True
  | some (.dT _) => True
  | some (.set _ _) => True
  | some (.ins _ _ _) => True
  | some (.ext _) => True
  | _ => False
section
variable {P : Program} {w : World} {H : Hp} {h h' : Heap} {x e : Addr} {o' : HO}
/-- the object at e is changed: x itself, or the dict of the instance x -/
theorem HOk.write (ok : HOk P w H h) (mu : Mut (H x)) (he : e = x ∨ H e = some (.own x)) (k : ∀ b u, b ≠ e → h.get? b = some u → h'.get? b = some u) (heo : ∃ u, h'.get? e = some u)
    (new : ObjOk P w (upd H x o') h' x o') : HOk P w (upd H x o') h' := fun b u q => by
  have nown : ∀ c y, H c = some (.own y) → c ≠ x := fun c y r z => by subst z; rw [r] at mu; exact mu
  have ntup : ∀ c xs, H c = some (.tup xs) → c ≠ x := fun c xs r z => by subst z; rw [r] at mu; exact mu
  by_cases hb : b = x
  · subst hb; rw [upd_same] at q; cases q; exact new
  · rw [upd_ne hb] at q
    by_cases hbe : b = e
    · have q' : H b = some (.own x) := by
        rcases he with z | z
        · exact absurd (hbe.trans z) hb
        · rw [hbe]; exact z
      rw [q] at q'; cases q'
      obtain ⟨v, hv⟩ := heo
      exact ⟨v, by rw [hbe]; exact hv⟩
    · refine (ok b u q).stay (fun c v hc r => k c v ?_ r) (fun c r => by rw [upd_ne (nown c b r)]; exact r) fun c xs r => by rw [upd_ne (ntup c xs r)]; exact r
      rcases hc with rfl | hc
      · exact hbe
      · rintro rfl
        rcases he with z | z
        · exact nown c b hc z
        · rw [hc] at z; cases z; exact hb rfl
end

/-! ### kept unless tracked; of the frames at fs (the callers') the slots may change (an exception that passes writes there); of the records at ex (iterators) nothing is said -/
structure Un (fs ex : List Addr) (H H' : Hp) (h h' : Heap) : Prop where
  keep : ∀ b o, h.get? b = some o → H b = none → b ∉ fs → b ∉ ex → h'.get? b = some o
  slot : ∀ b o, h.get? b = some o → H b = none → b ∈ fs → b ∉ ex → ∃ sl, h'.get? b = some { o with slots := sl }
  free : ∀ b o, h.get? b = some o → H b = none → b ∉ ex → H' b = none
  there : ∀ b o, h.get? b = some o → b ∉ ex → ∃ o', h'.get? b = some o'
  tups : ∀ b xs, H b = some (.tup xs) → H' b = some (.tup xs)
  frzs : ∀ b o u, H b = some (.frz o u) → H' b = some (.frz o u)
  tbls : ∀ b ps, H b = some (.tbl ps) → ∃ more, H' b = some (.tbl (ps ++ more))
section
variable {fs fs' ex ex' : List Addr} {H H1 H2 : Hp} {h h1 h2 h' : Heap} {a x e : Addr} {o : HO}
theorem Un.any (u : Un fs ex H H1 h h1) {b : Addr} {ob : Obj} (q : h.get? b = some ob) (n : H b = none) (hx : b ∉ ex) : ∃ sl, h1.get? b = some { ob with slots := sl } := by
  by_cases hb : b ∈ fs
  · exact u.slot b ob q n hb hx
  · exact ⟨ob.slots, u.keep b ob q n hb hx⟩
theorem Un.trans (a : Un fs ex H H1 h h1) (b : Un fs ex H1 H2 h1 h2) : Un fs ex H H2 h h2 where
  keep := fun c ob q n hc hx => b.keep c ob (a.keep c ob q n hc hx) (a.free c ob q n hx) hc hx
  slot := fun c ob q n hc hx => by
    obtain ⟨sl, e1⟩ := a.slot c ob q n hc hx
    obtain ⟨sl', e2⟩ := b.slot c _ e1 (a.free c ob q n hx) hc hx
    exact ⟨sl', e2⟩
  free := fun c ob q n hx => by
    obtain ⟨o', e1⟩ := a.there c ob q hx
    exact b.free c o' e1 (a.free c ob q n hx) hx
  there := fun c ob q hx => by
    obtain ⟨o', e1⟩ := a.there c ob q hx
    exact b.there c o' e1 hx
  tups := fun c xs q => b.tups c xs (a.tups c xs q)
  frzs := fun c ob xs q => b.frzs c ob xs (a.frzs c ob xs q)
  tbls := fun c ps q => by
    obtain ⟨m1, e1⟩ := a.tbls c ps q
    obtain ⟨m2, e2⟩ := b.tbls c _ e1
    exact ⟨m1 ++ m2, by rw [e2, Array.append_assoc]⟩
theorem Un.kept (k : ∀ b u, h.get? b = some u → h'.get? b = some u) : Un fs ex H H h h' :=
  ⟨fun b ob q _ _ _ => k b ob q, fun b ob q _ _ _ => ⟨ob.slots, k b ob q⟩, fun _ _ _ n _ => n, fun b ob q _ => ⟨ob, k b ob q⟩, fun _ _ q => q, fun _ _ _ q => q, fun _ ps q => ⟨#[], by rw [q]; simp⟩⟩
theorem Un.refl : Un fs ex H H h h := Un.kept fun _ _ q => q
theorem Un.laid (k : ∀ b u, h.get? b = some u → h'.get? b = some u) (hp : h.objs.size ≤ a) (hn : H a = none) : Un fs ex H (upd H a o) h h' where
  keep := fun b u q _ _ _ => k b u q
  slot := fun b u q _ _ _ => ⟨u.slots, k b u q⟩
  free := fun b u q n _ => by rw [upd_ne (Nat.ne_of_lt (Nat.lt_of_lt_of_le (Heap.lt_size q) hp))]; exact n
  there := fun b u q _ => ⟨u, k b u q⟩
  tups := fun b xs q => by rw [upd_ne (ne_of_none q hn)]; exact q
  frzs := fun b u xs q => by rw [upd_ne (ne_of_none q hn)]; exact q
  tbls := fun b ps q => ⟨#[], by rw [upd_ne (ne_of_none q hn), q]; simp⟩
theorem Un.write (mu : Mut (H x)) (he : e = x ∨ H e = some (.own x)) (k : ∀ b u, b ≠ e → h.get? b = some u → h'.get? b = some u) (heo : ∃ u, h'.get? e = some u) : Un fs ex H (upd H x o) h h' := by
  have hx : ∀ b, H b = none → b ≠ x := fun b n z => by subst z; rw [n] at mu; exact mu
  have hb : ∀ b, H b = none → b ≠ e := fun b n z => by
    subst z
    rcases he with r | r
    · exact hx b n r
    · rw [n] at r; cases r
  have hm : ∀ b u, H b = some u → ¬ Mut (some u) → b ≠ x := fun b u q nm z => by subst z; rw [q] at mu; exact nm mu
  refine ⟨fun b u q n _ _ => k b u (hb b n) q, fun b u q n _ _ => ⟨u.slots, k b u (hb b n) q⟩, fun b u q n _ => by rw [upd_ne (hx b n)]; exact n, fun b u q _ => ?_,
    fun b xs q => by rw [upd_ne (hm b _ q fun z => z)]; exact q, fun b u xs q => by rw [upd_ne (hm b _ q fun z => z)]; exact q, fun b ps q => ⟨#[], by rw [upd_ne (hm b _ q fun z => z), q]; simp⟩⟩
  by_cases hbe : b = e
  · subst hbe; exact heo
  · exact ⟨u, k b u hbe q⟩
theorem Un.mono (u : Un fs ex H H1 h h1) (hs : ∀ b ∈ fs, b ∈ fs') (hx : ∀ b ∈ ex, b ∈ ex') : Un fs' ex' H H1 h h1 :=
  ⟨fun b ob q n hb he => u.keep b ob q n (fun z => hb (hs b z)) fun z => he (hx b z), fun _ _ q n _ he => u.any q n fun z => he (hx _ z), fun b ob q n he => u.free b ob q n fun z => he (hx b z), fun b ob q he => u.there b ob q fun z => he (hx b z), u.tups, u.frzs, u.tbls⟩
end

/-! ### the heap without what is tracked -/
def trk (h : Heap) (H : Hp) : List Addr := (List.range h.objs.size).filter fun a => (H a).isSome
def hidT (h : Heap) (H : Hp) : Heap := PySem.W.hideAll h (trk h H)
theorem hidT_size (h : Heap) (H : Hp) : (hidT h H).objs.size = h.objs.size := PySem.W.hideAll_size _ _
theorem hidT_get {h : Heap} {H : Hp} {b : Addr} {o : Obj} (e : h.get? b = some o) (n : H b = none) : (hidT h H).get? b = some o :=
  PySem.W.hideAll_get _ e fun hm => by
    have q : (H b).isSome = true := (List.mem_filter.mp hm).2
    rw [n] at q; simp at q
theorem of_hidT {h : Heap} {H : Hp} {b : Addr} {o : Obj} (e : (hidT h H).get? b = some o) : h.get? b = some o ∧ H b = none := by
  have e' : h.get? b = some o := PySem.W.of_hideAll (trk h H) e
  refine ⟨e', ?_⟩
  cases q : H b with
  | none => rfl
  | some x =>
    have hm : b ∈ trk h H := List.mem_filter.mpr ⟨List.mem_range.mpr (Heap.lt_size e'), by simp [q]⟩
    have z : (hidT h H).get? b = none := PySem.W.hideAll_none (trk h H) hm
    rw [z] at e; cases e

/-! ### OpenK's ledger, filled with every new object but one -/
def allNews (g h : Heap) (L : Addr) : List (Addr × Obj) := (List.range h.objs.size).filterMap fun a => if a = L ∨ (g.get? a).isSome = true then none else (h.get? a).map fun o => (a, o)
def rest (g h : Heap) (L d : Addr) : List (Addr × Obj) := (allNews g h L).filter fun p => decide (p.1 ≠ d)
end L2

namespace L2
open PySem PySem.Spec PyProof.Rows

/-- the module's facts, over the base: the heap at the law's entry without what is tracked there -/
structure Mod (K : PySem.W.Frag) (mg : Str → Option Value) (base : Heap) : Prop where
  kin : K.In base
  glob : base.Ns mainGlobals mg
  blt : ∃ mb, base.Ns builtinsNs mb ∧ ∀ x : Str, x ≠ "__name__" → mb x = bootBuiltins x
  nolimit : base.NoLimit

/-- the context: a def's body (or a comprehension's block) running. base: fixed through the whole law; s₀, H₀: the entry; outer: the frames whose slots others may change (a def's callers); stack: all frames that run;
   ex: iterators that were made ahead of the entry and are walked here (a comprehension's); fn: the names whose cells were made at the entry (a def: all; a comprehension's block: its own); calm: not within an except suite; pn: pins that every state bears; xe: what is wanted of an exception that leaves the code -/
structure Cx where
  prog : Program
  w : World
  K : PySem.W.Frag
  mg : Str → Option Value
  base : Heap
  A : Around
  N : List Str
  s₀ : Shared
  H₀ : Hp
  env : Env
  outer : List Env
  stack : List Env
  ex : List Addr
  fn : Str → Bool
  calm : Bool
  pn : List (Addr × Obj)
  xe : Value → Shared → Prop
/-- the callers' frames -/
def frs (l : List Env) : List Addr := l.filterMap (·.frame)
abbrev Cx.fs (X : Cx) : List Addr := frs X.outer

def Vis (sc : Scope) (x : Str) : Prop := sc.names.lookup x = some .local ∨ sc.names.lookup x = some .cell ∨ sc.names.lookup x = some .free
def Loc (sc : Scope) (x : Str) : Prop := sc.names.lookup x = some .local ∨ sc.names.lookup x = some .cell
def Look (env : Env) (h : Heap) (m : Str → Option Value) (x : Str) (u : Value) : Prop :=
  (env.kindOf x = some .local ∧ m x = some u) ∨ ((env.kindOf x = some .cell ∨ env.kindOf x = some .free) ∧ ∃ c, env.cells.lookup x = some c ∧ h.IsCell c (some u))

structure Cx.Ok (X : Cx) : Prop where
  mod : Mod X.K X.mg X.base
  kind : X.env.scope.kind = .function
  glob : X.env.globals = mainGlobals
  blt : X.env.builtins = builtinsNs
  above : X.s₀.heap.objs.size ≤ X.env.locals
  inj : ∀ x y c, X.env.cells.lookup x = some c → X.env.cells.lookup y = some c → x = y
  has : ∀ x, (X.env.kindOf x = some .cell ∨ X.env.kindOf x = some .free) → ∃ c, X.env.cells.lookup x = some c
  cab : ∀ x c, X.fn x = true → X.env.cells.lookup x = some c → X.s₀.heap.objs.size ≤ c
  hd : X.calm = true → X.A.handled = none
  frames : X.A.frames = some X.stack
  stk : X.stack = X.outer ∨ (X.stack = X.env :: X.outer ∧ X.env.frame = some X.env.locals)
  exf : ∀ b ∈ X.ex, b ≠ X.env.locals ∧ ∀ x c, X.env.cells.lookup x = some c → c ≠ b
  bs : ∀ b o, X.base.get? b = some o → X.s₀.heap.get? b = some o ∧ X.H₀ b = none
  bsz : X.base.objs.size ≤ X.s₀.heap.objs.size
  noex : ∀ b o, X.base.get? b = some o → b ∉ X.ex
  exfs : ∀ b ∈ X.ex, b ∉ X.fs
  funs : X.s₀.heap.FunFrames X.base X.outer
  frf : ∀ b ∈ X.fs, X.H₀ b = none

structure Inv (X : Cx) (pins : List (Addr × Obj)) (σ : List (Option V)) (H : Hp) (s : Shared) : Prop where
  ok : X.Ok
  os : s.os = X.s₀.os
  bare : AllBare s.gens
  base : Un X.fs X.ex X.H₀ H X.s₀.heap s.heap
  loc : ∃ m, s.heap.Ns X.env.locals m ∧ ∀ (i : Nat) (x : Str) (v : V), X.N[i]? = some x → σ[i]? = some (some v) → Vis X.env.scope x → ∃ u, RelV v u ∧ Look X.env s.heap m x u
  cell : ∀ x c, X.env.cells.lookup x = some c → ∃ v, s.heap.IsCell c v
  free : H X.env.locals = none
  freeC : ∀ x c, X.env.cells.lookup x = some c → H c = none
  pin : ∀ p ∈ X.pn ++ pins, s.heap.get? p.1 = some p.2 ∧ H p.1 = none ∧ p.1 ≠ X.env.locals ∧ p.1 ∉ X.fs ∧ ∀ v, p.2.data ≠ .cell v
  hok : HOk X.prog X.w H s.heap
  len : σ.length = X.N.length

section
variable {X : Cx} {pins : List (Addr × Obj)} {σ : List (Option V)} {H H' : Hp} {s : Shared} {h' : Heap}

theorem Cx.Ok.nofr (ok : X.Ok) {b : Addr} {o : Obj} (e : X.base.get? b = some o) : b ∉ X.fs := fun hb => by
  have := (ok.funs.mem hb).1
  rw [e] at this; cases this
theorem Inv.bs (I : Inv X pins σ H s) : ∀ b o, X.base.get? b = some o → s.heap.get? b = some o ∧ H b = none := fun b o e =>
  ⟨I.base.keep b o (I.ok.bs b o e).1 (I.ok.bs b o e).2 (I.ok.nofr e) (I.ok.noex b o e), I.base.free b o (I.ok.bs b o e).1 (I.ok.bs b o e).2 (I.ok.noex b o e)⟩
theorem Inv.bk (I : Inv X pins σ H s) : ∀ b o, X.base.get? b = some o → s.heap.get? b = some o := fun b o e => (I.bs b o e).1
theorem Inv.mod (I : Inv X pins σ H s) : Mod X.K X.mg X.base := I.ok.mod
theorem Inv.kIn (I : Inv X pins σ H s) : X.K.In s.heap := I.ok.mod.kin.keeps I.bk
theorem Inv.nolimit (I : Inv X pins σ H s) : s.heap.NoLimit := I.ok.mod.nolimit.keeps I.bk
/-- the frame over the base: for OpenK's rules (K.In X.base is I.mod.kin) -/
theorem Inv.fr (I : Inv X pins σ H s) : ∃ m, Fr X.base X.env.locals s.heap m :=
  let ⟨m, hn, _⟩ := I.loc
  ⟨m, hn, I.bk, Nat.le_trans I.ok.bsz I.ok.above⟩
theorem Inv.lt (I : Inv X pins σ H s) : X.env.locals < s.heap.objs.size := let ⟨_, hn, _⟩ := I.loc; hn.lt
theorem Inv.sz (I : Inv X pins σ H s) : X.s₀.heap.objs.size ≤ s.heap.objs.size := Nat.le_trans I.ok.above (Nat.le_of_lt I.lt)
theorem Inv.nofs (I : Inv X pins σ H s) {a : Addr} (h : s.heap.objs.size ≤ a) : a ∉ X.fs := fun hb => by
  obtain ⟨_, o, ho, _⟩ := I.ok.funs.mem hb
  exact absurd (Nat.lt_of_lt_of_le (Heap.lt_size ho) (Nat.le_trans I.sz h)) (Nat.lt_irrefl _)
theorem Inv.cne (I : Inv X pins σ H s) : ∀ x c, X.env.cells.lookup x = some c → c ≠ X.env.locals := fun x c e z => by
  obtain ⟨v, o, ho, hd⟩ := I.cell x c e
  obtain ⟨m, ⟨o', es, ep, ho', hd', _⟩, _⟩ := I.loc
  rw [z, ho'] at ho; cases ho; rw [hd'] at hd; cases hd
theorem Inv.funs (I : Inv X pins σ H s) : s.heap.FunFrames X.base X.outer := by
  have all : ∀ (l : List Env), (∀ b ∈ frs l, b ∈ X.fs) → X.s₀.heap.FunFrames X.base l → s.heap.FunFrames X.base l := by
    intro l
    induction l with
    | nil => intro _ _; trivial
    | cons env r ih =>
      intro hs hl
      obtain ⟨hk, ⟨L, o, hf, hn, ho, hd⟩, hr⟩ := hl
      have hL : L ∈ X.fs := hs L (by unfold frs; rw [List.filterMap_cons, hf]; exact List.mem_cons_self)
      obtain ⟨sl, e⟩ := I.base.slot L o ho (I.ok.frf L hL) hL fun z => I.ok.exfs L z hL
      exact ⟨hk, ⟨L, _, hf, hn, e, hd⟩, ih (fun b hb => hs b (by unfold frs; rw [List.filterMap_cons, hf]; exact List.mem_cons_of_mem _ hb)) hr⟩
  exact all X.outer (fun _ hb => hb) I.ok.funs

/-- the frames that run, for a call -/
theorem Inv.stack (I : Inv X pins σ H s) : s.heap.FunFrames X.base X.stack := by
  rcases I.ok.stk with e | ⟨e, hf⟩
  · rw [e]; exact I.funs
  · rw [e]
    obtain ⟨m, hn, _⟩ := I.loc
    refine .cons (by rw [I.ok.kind]; decide) hf hn ?_ I.funs
    exact Heap.get?_none_of_le (Nat.le_trans I.ok.bsz I.ok.above)
theorem Inv.stkSub (I : Inv X pins σ H s) : ∀ b ∈ frs X.stack, b ∈ X.env.locals :: X.fs := fun b hb => by
  rcases I.ok.stk with e | ⟨e, hf⟩
  · rw [e] at hb; exact List.mem_cons_of_mem _ hb
  · rw [e] at hb
    unfold frs at hb
    rw [List.filterMap_cons, hf] at hb
    exact hb
theorem Inv.stkFree (I : Inv X pins σ H s) : ∀ b ∈ frs X.stack, H b = none := fun b hb => by
  rcases List.mem_cons.mp (I.stkSub b hb) with e | hb
  · rw [e]; exact I.free
  · obtain ⟨_, o, ho, _⟩ := I.ok.funs.mem hb
    exact I.base.free b o ho (I.ok.frf b hb) fun z => I.ok.exfs b z hb

/-- THE STEP: the untracked objects but the frame and the records at ch are kept (the callers' frames up to slots), the frame's map is kept, the new abstract heap is held -/
theorem Inv.step {g' : Array GenState} {t' : Nat} {d' : Drawn} {ch : List Addr} (I : Inv X pins σ H s)
    (hch : ∀ b ∈ ch, (b ∈ X.ex ∨ X.s₀.heap.objs.size ≤ b) ∧ b ≠ X.env.locals ∧ (∀ x c, X.env.cells.lookup x = some c → c ≠ b) ∧ ∀ p ∈ X.pn ++ pins, p.1 ≠ b)
    (keep : ∀ b o, b ≠ X.env.locals → b ∉ X.fs → b ∉ ch → s.heap.get? b = some o → H b = none → h'.get? b = some o)
    (slot : ∀ b o, b ≠ X.env.locals → b ∈ X.fs → b ∉ ch → s.heap.get? b = some o → H b = none → ∃ sl, h'.get? b = some { o with slots := sl }) (free : ∀ b o, b ∉ ch → s.heap.get? b = some o → H b = none → H' b = none)
    (there : ∀ b o, b ∉ ch → s.heap.get? b = some o → ∃ o', h'.get? b = some o')
    (tups : ∀ b xs, H b = some (.tup xs) → H' b = some (.tup xs)) (frzs : ∀ b o u, H b = some (.frz o u) → H' b = some (.frz o u)) (tbls : ∀ b ps, H b = some (.tbl ps) → ∃ more, H' b = some (.tbl (ps ++ more)))
    (ns : ∀ m, s.heap.Ns X.env.locals m → h'.Ns X.env.locals m) (hok : HOk X.prog X.w H' h') (hg : AllBare g') :
    Inv X pins σ H' { s with heap := h', gens := g', drawn := d', toks := t' } := by
  have neL : ∀ b o, X.s₀.heap.get? b = some o → b ≠ X.env.locals := fun b o e => Nat.ne_of_lt (Nat.lt_of_lt_of_le (Heap.lt_size e) I.ok.above)
  have neC : ∀ b o, X.s₀.heap.get? b = some o → b ∉ X.ex → b ∉ ch := fun b o e hx hb => by
    rcases (hch b hb).1 with z | z
    · exact hx z
    · exact absurd (Nat.lt_of_lt_of_le (Heap.lt_size e) z) (Nat.lt_irrefl _)
  have cellK : ∀ x c, X.env.cells.lookup x = some c → ∀ v, s.heap.IsCell c v → h'.IsCell c v := fun x c e v ⟨o, ho, hd⟩ => by
    have nch : c ∉ ch := fun z => (hch c z).2.2.1 x c e rfl
    by_cases hc : c ∈ X.fs
    · obtain ⟨sl, q⟩ := slot c o (I.cne x c e) hc nch ho (I.freeC x c e)
      exact ⟨_, q, hd⟩
    · exact ⟨o, keep c o (I.cne x c e) hc nch ho (I.freeC x c e), hd⟩
  refine ⟨I.ok, I.os, hg, ⟨fun b o e n hb hx => ?_, fun b o e n hb hx => ?_, fun b o e n hx => ?_, fun b o e hx => ?_, fun b xs e => tups b xs (I.base.tups b xs e), fun b o xs e => frzs b o xs (I.base.frzs b o xs e), fun b ps e => ?_⟩, ?_, fun x c e => ?_, ?_, fun x c e => ?_, fun p hp => ?_, hok, I.len⟩
  · exact keep b o (neL b o e) hb (neC b o e hx) (I.base.keep b o e n hb hx) (I.base.free b o e n hx)
  · obtain ⟨sl, e1⟩ := I.base.slot b o e n hb hx
    obtain ⟨sl', e2⟩ := slot b _ (neL b o e) hb (neC b o e hx) e1 (I.base.free b o e n hx)
    exact ⟨sl', e2⟩
  · obtain ⟨o', e1⟩ := I.base.there b o e hx
    exact free b o' (neC b o e hx) e1 (I.base.free b o e n hx)
  · obtain ⟨o', e1⟩ := I.base.there b o e hx
    exact there b o' (neC b o e hx) e1
  · obtain ⟨m1, e1⟩ := I.base.tbls b ps e
    obtain ⟨m2, e2⟩ := tbls b _ e1
    exact ⟨m1 ++ m2, by rw [e2, Array.append_assoc]⟩
  · obtain ⟨m, hn, hl⟩ := I.loc
    refine ⟨m, ns m hn, fun i x v e1 e2 e3 => ?_⟩
    obtain ⟨u, r, l⟩ := hl i x v e1 e2 e3
    refine ⟨u, r, ?_⟩
    rcases l with l | ⟨k, c, e, z⟩
    · exact .inl l
    · exact .inr ⟨k, c, e, cellK x c e _ z⟩
  · obtain ⟨v, z⟩ := I.cell x c e
    exact ⟨v, cellK x c e v z⟩
  · obtain ⟨m, ⟨o, _, _, ho, _⟩, _⟩ := I.loc
    exact free _ o (fun z => (hch _ z).2.1 rfl) ho I.free
  · obtain ⟨v, o, ho, hd⟩ := I.cell x c e
    exact free c o (fun z => (hch c z).2.2.1 x c e rfl) ho (I.freeC x c e)
  · obtain ⟨e, n, ne, nf, d⟩ := I.pin p hp
    have nch : p.1 ∉ ch := fun z => (hch p.1 z).2.2.2 p hp rfl
    exact ⟨keep p.1 p.2 ne nf nch e n, free p.1 p.2 nch e n, ne, nf, d⟩
/-- .. where the frame's own object is kept too -/
theorem Inv.un {t' : Nat} (I : Inv X pins σ H s) (u : Un X.fs [] H H' s.heap h') (hok : HOk X.prog X.w H' h') : Inv X pins σ H' { s with heap := h', toks := t' } := by
  obtain ⟨m, ⟨o, es, ep, ho, r⟩, _⟩ := id I.loc
  obtain ⟨sl, hL⟩ := u.any ho I.free (by simp)
  exact I.step (g' := s.gens) (d' := s.drawn) (ch := []) (fun _ z => nomatch z) (fun b o _ hb _ e n => u.keep b o e n hb (by simp)) (fun b o _ hb _ e n => u.slot b o e n hb (by simp)) (fun b o _ e n => u.free b o e n (by simp)) (fun b o _ e => u.there b o e (by simp)) u.tups u.frzs u.tbls (fun m' hm => by
    obtain ⟨o', es', ep', ho', r'⟩ := hm
    rw [ho] at ho'; cases ho'
    exact ⟨_, es', ep', hL, r'⟩) hok I.bare
/-- behind a call (or a comprehension's block): the slots of this frame may have changed too, the records at ch may have turned -/
theorem Inv.call {g' : Array GenState} {t' : Nat} {d' : Drawn} {ch : List Addr} (I : Inv X pins σ H s) (u : Un (frs X.stack) ch H H' s.heap h') (hok : HOk X.prog X.w H' h') (hg : AllBare g')
    (hch : ∀ b ∈ ch, (b ∈ X.ex ∨ X.s₀.heap.objs.size ≤ b) ∧ b ≠ X.env.locals ∧ (∀ x c, X.env.cells.lookup x = some c → c ≠ b) ∧ ∀ p ∈ X.pn ++ pins, p.1 ≠ b) :
    Inv X pins σ H' { s with heap := h', gens := g', drawn := d', toks := t' } := by
  obtain ⟨m, ⟨o, es, ep, ho, r⟩, _⟩ := id I.loc
  obtain ⟨sl, hL⟩ := u.any ho I.free fun z => (hch _ z).2.1 rfl
  exact I.step (ch := ch) hch (fun b o hL hb hc e n => u.keep b o e n (fun z => (List.mem_cons.mp (I.stkSub b z)).elim hL hb) hc) (fun b o _ _ hc e n => u.any e n hc) (fun b o hc e n => u.free b o e n hc) (fun b o hc e => u.there b o e hc) u.tups u.frzs u.tbls (fun m' hm => by
    obtain ⟨o', es', ep', ho', r'⟩ := hm
    rw [ho] at ho'; cases ho'
    exact ⟨_, es', ep', hL, r'⟩) hok hg
/-- an untracked record of ours (an iterator) has turned -/
theorem Inv.turned {t' : Nat} {it : Addr} (I : Inv X pins σ H s) (k : ∀ b o, b ≠ it → s.heap.get? b = some o → h'.get? b = some o) (hn : H it = none) (hL : it ≠ X.env.locals)
    (h1 : it ∈ X.ex ∨ X.s₀.heap.objs.size ≤ it) (h2 : ∀ x c, X.env.cells.lookup x = some c → c ≠ it) (h3 : ∀ p ∈ X.pn ++ pins, p.1 ≠ it) : Inv X pins σ H { s with heap := h', toks := t' } := by
  have nit : ∀ b u, H b = some u → b ≠ it := fun b u e z => by rw [z, hn] at e; cases e
  refine I.step (g' := s.gens) (d' := s.drawn) (ch := [it]) (fun b hb => ?_) (fun b o _ _ hc e _ => k b o (fun z => hc (by simp [z])) e) (fun b o _ _ hc e _ => ⟨o.slots, k b o (fun z => hc (by simp [z])) e⟩) (fun _ _ _ _ n => n)
    (fun b o hc e => ⟨o, k b o (fun z => hc (by simp [z])) e⟩) (fun _ _ e => e) (fun _ _ _ e => e) (fun b ps e => ⟨#[], by rw [e]; simp⟩) (fun m hm => ?_) (fun b u e => ?_) I.bare
  · have e : b = it := by simpa using hb
    subst e
    exact ⟨h1, hL, h2, h3⟩
  · obtain ⟨o, es, ep, ho, r⟩ := hm
    exact ⟨o, es, ep, k _ o (Ne.symm hL) ho, r⟩
  · refine (I.hok b u e).stay (fun c v hc q => k c v ?_ q) (fun _ q => q) fun _ _ q => q
    rcases hc with z | z
    · rw [z]; exact nit b u e
    · exact nit c _ z
theorem Inv.tok (I : Inv X pins σ H s) (t : Nat) : Inv X pins σ H { s with toks := t } := I.un (h' := s.heap) (t' := t) Un.refl I.hok
/-- all objects kept -/
theorem Inv.kept {t' : Nat} (I : Inv X pins σ H s) (k : ∀ b u, s.heap.get? b = some u → h'.get? b = some u) : Inv X pins σ H { s with heap := h', toks := t' } := I.un (Un.kept k) (I.hok.kept k)
/-- a new object laid and tracked -/
theorem Inv.laid {a : Addr} {o : HO} {t' : Nat} (I : Inv X pins σ H s) (k : ∀ b u, s.heap.get? b = some u → h'.get? b = some u) (hp : s.heap.objs.size ≤ a) (new : ObjOk X.prog X.w (upd H a o) h' a o) :
    Inv X pins σ (upd H a o) { s with heap := h', toks := t' } := I.un (Un.laid k hp (I.hok.fresh hp)) (I.hok.laid k hp new)
/-- an object written -/
theorem Inv.write {x e : Addr} {o : HO} {t' : Nat} (I : Inv X pins σ H s) (mu : Mut (H x)) (he : e = x ∨ H e = some (.own x)) (k : ∀ b u, b ≠ e → s.heap.get? b = some u → h'.get? b = some u) (heo : ∃ u, h'.get? e = some u)
    (new : ObjOk X.prog X.w (upd H x o) h' x o) : Inv X pins σ (upd H x o) { s with heap := h', toks := t' } := I.un (Un.write mu he k heo) (I.hok.write mu he k heo new)
/-- forgetting slots, pins -/
theorem Inv.weak {σ' : List (Option V)} (I : Inv X pins σ H s) (hl : σ'.length = σ.length) (w : ∀ (i : Nat) v, σ'[i]? = some (some v) → σ[i]? = some (some v)) : Inv X pins σ' H s :=
  ⟨I.ok, I.os, I.bare, I.base, let ⟨m, hn, hl'⟩ := I.loc; ⟨m, hn, fun i x v e1 e2 e3 => hl' i x v e1 (w i v e2) e3⟩, I.cell, I.free, I.freeC, I.pin, I.hok, hl.trans I.len⟩
theorem Inv.pins_of {pins' : List (Addr × Obj)} (I : Inv X pins σ H s) (h : ∀ p ∈ pins', s.heap.get? p.1 = some p.2 ∧ H p.1 = none ∧ p.1 ≠ X.env.locals ∧ p.1 ∉ X.fs ∧ ∀ v, p.2.data ≠ .cell v) : Inv X pins' σ H s :=
  ⟨I.ok, I.os, I.bare, I.base, I.loc, I.cell, I.free, I.freeC, fun p hp => (List.mem_append.mp hp).elim (fun z => I.pin p (List.mem_append_left _ z)) (h p), I.hok, I.len⟩

theorem nodup_ix {N : List Str} (hN : N.Nodup) {i j : Nat} {x : Str} (a : N[i]? = some x) (b : N[j]? = some x) : i = j := by
  obtain ⟨h1, e1⟩ := List.getElem?_eq_some_iff.mp a
  obtain ⟨h2, e2⟩ := List.getElem?_eq_some_iff.mp b
  exact (List.getElem_inj hN).mp (e1.trans e2.symm)

/-- a name is stored; what changed -/
theorem store_ok2 {M : Model} {A : Around} {E : Value → Shared → Prop} {i : Nat} {x : Str} {v : V} {u : Value} {Q : Unit → Shared → Prop} (I : Inv X pins σ H s) (hN : X.N.Nodup) (hi : X.N[i]? = some x) (hx : Loc X.env.scope x) (r : RelV v u)
    (h : ∀ s', Inv X pins (σ.set i (some v)) H s' → (∃ a, Heap.SameBut a s.heap s'.heap ∧ (a = X.env.locals ∨ X.env.cells.lookup x = some a)) → Q () s') (hf : X.fn x = true ∨ X.env.scope.names.lookup x = some .local := by first | exact .inl rfl | exact .inr rfl | assumption) : wpAny M A (storeName X.env x u) Q E s := by
  obtain ⟨m, hn, hl⟩ := id I.loc
  have hcls : (X.env.scope.kind == .class || (X.env.scope.kind == .module && X.env.locals != X.env.globals)) = false := by rw [I.ok.kind]; rfl
  have hiσ : i < σ.length := by rw [I.len]; exact (List.getElem?_eq_some_iff.mp hi).1
  have cne := I.cne
  have tracked : ∀ {a : Addr} {h' : Heap}, (∃ o, s.heap.get? a = some o ∧ H a = none) → Heap.SameBut a s.heap h' → HOk X.prog X.w H h' := fun {a h'} ha hs b ob e => by
    obtain ⟨_, _, hfree⟩ := ha
    refine (I.hok b ob e).stay (fun c w' hc q => (hs.2 c ?_).trans q) (fun _ q => q) fun _ _ q => q
    rintro rfl
    rcases hc with rfl | hc
    · rw [hfree] at e; cases e
    · rw [hfree] at hc; cases hc
  rcases hx with hk | hk
  · refine wpAny_storeName_local hk hn (fun h' hn' hs => ?_) hcls
    obtain ⟨oL, _, _, hoL, _⟩ := id hn
    refine h _ ⟨I.ok, I.os, I.bare, ⟨fun b o e n hb hx => ?_, fun b o e n hb hx => ?_, I.base.free, fun b o e hx => ?_, I.base.tups, I.base.frzs, I.base.tbls⟩, ⟨_, hn', fun j y v' e1 e2 e3 => ?_⟩, fun y c e => ?_, I.free, I.freeC, fun p hp => ?_, tracked ⟨oL, hoL, I.free⟩ hs, by simpa using I.len⟩ ⟨_, hs, .inl rfl⟩
    · exact (hs.2 b (Nat.ne_of_lt (Nat.lt_of_lt_of_le (Heap.lt_size e) I.ok.above))).trans (I.base.keep b o e n hb hx)
    · obtain ⟨sl, e1⟩ := I.base.slot b o e n hb hx
      exact ⟨sl, (hs.2 b (Nat.ne_of_lt (Nat.lt_of_lt_of_le (Heap.lt_size e) I.ok.above))).trans e1⟩
    · obtain ⟨o', e1⟩ := I.base.there b o e hx
      exact ⟨o', (hs.2 b (Nat.ne_of_lt (Nat.lt_of_lt_of_le (Heap.lt_size e) I.ok.above))).trans e1⟩
    · by_cases hj : j = i
      · subst hj
        rw [hi] at e1; cases e1
        rw [List.getElem?_set_self hiσ] at e2
        cases e2
        exact ⟨u, r, .inl ⟨hk, by simp⟩⟩
      · rw [List.getElem?_set_ne (Ne.symm hj)] at e2
        obtain ⟨u', r', q⟩ := hl j y v' e1 e2 e3
        refine ⟨u', r', ?_⟩
        rcases q with ⟨k, e⟩ | ⟨k, c, e, z⟩
        · refine .inl ⟨k, ?_⟩
          have : y ≠ x := fun e => hj (nodup_ix hN e1 (e ▸ hi))
          simp [this, e]
        · exact .inr ⟨k, c, e, z.sameBut hs (cne y c e)⟩
    · obtain ⟨w', z⟩ := I.cell y c e
      exact ⟨w', z.sameBut hs (cne y c e)⟩
    · obtain ⟨e, n, ne, nf, d⟩ := I.pin p hp
      exact ⟨(hs.2 p.1 ne).trans e, n, ne, nf, d⟩
  · have hfn : X.fn x = true := by
      rcases hf with z | z
      · exact z
      · rw [z] at hk; cases hk
    obtain ⟨c, hc⟩ := I.ok.has x (.inl hk)
    obtain ⟨w', z⟩ := I.cell x c hc
    refine wpAny_storeName_cell I.ok.kind hk hc z (fun h' hc' hs => ?_)
    obtain ⟨oc, hoc, hocd⟩ := id z
    refine h { s with heap := h' } ⟨I.ok, I.os, I.bare, ⟨fun b o e n hb hx => ?_, fun b o e n hb hx => ?_, I.base.free, fun b o e hx => ?_, I.base.tups, I.base.frzs, I.base.tbls⟩, ⟨m, hn.sameBut hs (Ne.symm (cne x c hc)), fun j y v' e1 e2 e3 => ?_⟩, fun y c' e => ?_, I.free, I.freeC, fun p hp => ?_, tracked ⟨oc, hoc, I.freeC x c hc⟩ hs, by simpa using I.len⟩ ⟨c, hs, .inr hc⟩
    · exact (hs.2 b (Nat.ne_of_lt (Nat.lt_of_lt_of_le (Heap.lt_size e) (I.ok.cab x c hfn hc)))).trans (I.base.keep b o e n hb hx)
    · obtain ⟨sl, e1⟩ := I.base.slot b o e n hb hx
      exact ⟨sl, (hs.2 b (Nat.ne_of_lt (Nat.lt_of_lt_of_le (Heap.lt_size e) (I.ok.cab x c hfn hc)))).trans e1⟩
    · obtain ⟨o', e1⟩ := I.base.there b o e hx
      exact ⟨o', (hs.2 b (Nat.ne_of_lt (Nat.lt_of_lt_of_le (Heap.lt_size e) (I.ok.cab x c hfn hc)))).trans e1⟩
    · by_cases hj : j = i
      · subst hj
        rw [hi] at e1; cases e1
        rw [List.getElem?_set_self hiσ] at e2
        cases e2
        exact ⟨u, r, .inr ⟨.inl hk, c, hc, hc'⟩⟩
      · rw [List.getElem?_set_ne (Ne.symm hj)] at e2
        obtain ⟨u', r', q⟩ := hl j y v' e1 e2 e3
        refine ⟨u', r', ?_⟩
        rcases q with q | ⟨k, c', e, z'⟩
        · exact .inl q
        · refine .inr ⟨k, c', e, z'.sameBut hs ?_⟩
          rintro rfl
          exact hj (nodup_ix hN e1 (I.ok.inj _ _ _ e hc ▸ hi))
    · by_cases hcc : c' = c
      · subst hcc; exact ⟨_, hc'⟩
      · obtain ⟨w2, z2⟩ := I.cell y c' e
        exact ⟨w2, z2.sameBut hs hcc⟩
    · obtain ⟨e, n, ne, nf, d⟩ := I.pin p hp
      refine ⟨(hs.2 p.1 ?_).trans e, n, ne, nf, d⟩
      intro q
      rw [q, hoc] at e
      have q' : oc = p.2 := Option.some.inj e
      exact d w' (by rw [← q']; exact hocd)
theorem store_ok {M : Model} {A : Around} {E : Value → Shared → Prop} {i : Nat} {x : Str} {v : V} {u : Value} {Q : Unit → Shared → Prop} (I : Inv X pins σ H s) (hN : X.N.Nodup) (hi : X.N[i]? = some x) (hx : Loc X.env.scope x) (r : RelV v u)
    (h : ∀ s', Inv X pins (σ.set i (some v)) H s' → Q () s') (hf : X.fn x = true ∨ X.env.scope.names.lookup x = some .local := by first | exact .inl rfl | exact .inr rfl | assumption) : wpAny M A (storeName X.env x u) Q E s :=
  store_ok2 I hN hi hx r (fun s' I' _ => h s' I') hf
/-- behind a call or a block, the state as it is -/
theorem Inv.call' {s' : Shared} {ch : List Addr} (I : Inv X pins σ H s) (ho : s'.os = s.os) (u : Un (frs X.stack) ch H H' s.heap s'.heap) (hok : HOk X.prog X.w H' s'.heap) (hg : AllBare s'.gens)
    (hch : ∀ b ∈ ch, (b ∈ X.ex ∨ X.s₀.heap.objs.size ≤ b) ∧ b ≠ X.env.locals ∧ (∀ x c, X.env.cells.lookup x = some c → c ≠ b) ∧ ∀ p ∈ X.pn ++ pins, p.1 ≠ b) : Inv X pins σ H' s' := by
  obtain ⟨h', g', d', t', o'⟩ := s'
  have e : o' = s.os := ho
  subst e
  exact I.call (g' := g') (t' := t') (d' := d') u hok hg hch
end

/-! ### the judgements -/
/-- an exception: its class, its own dict's address (where it has one), the abstract heap behind it -/
abbrev XK := Value → Option Addr → Hp → Prop
abbrev St := List (Option V)
abbrev VK := V → Hp → Prop
/-- an expression's reading; a test's; an argument list's -/
abbrev TE := St → Hp → VK → Prop
abbrev TT := St → Hp → (Bool → Hp → Prop) → Prop
abbrev TA := St → Hp → (List V → Hp → Prop) → Prop
/-- what is wanted behind a statement -/
structure Ends where
  nx : St → Hp → Prop
  rt : VK
  bk : St → Hp → Prop := fun _ _ => False
  ct : St → Hp → Prop := fun _ _ => False
abbrev TS := Ends → St → Hp → Prop

def EP (X : Cx) (pins : List (Addr × Obj)) (σ : St) (Q : VK) (u : Value) (s' : Shared) : Prop := ∃ v H', Inv X pins σ H' s' ∧ RelV v u ∧ Q v H'
def TP (X : Cx) (pins : List (Addr × Obj)) (σ : St) (Q : Bool → Hp → Prop) (b : Bool) (s' : Shared) : Prop := ∃ H', Inv X pins σ H' s' ∧ Q b H'
def AP (X : Cx) (pins : List (Addr × Obj)) (σ : St) (Q : List V → Hp → Prop) (us : List Value) (s' : Shared) : Prop := ∃ vs H', Inv X pins σ H' s' ∧ Vals vs us ∧ Q vs H'
def SP (X : Cx) (pins : List (Addr × Obj)) (D : Ends) (f : Flow) (s' : Shared) : Prop :=
  match f with
  | .next => ∃ σ' H', Inv X pins σ' H' s' ∧ D.nx σ' H'
  | .brk => ∃ σ' H', Inv X pins σ' H' s' ∧ D.bk σ' H'
  | .cont => ∃ σ' H', Inv X pins σ' H' s' ∧ D.ct σ' H'
  | .ret u => ∃ v σ' H', Inv X pins σ' H' s' ∧ RelV v u ∧ D.rt v H'

def PE (X : Cx) (e : Expr) (t : TE) : Prop :=
  ∀ (pins : List (Addr × Obj)) (s : Shared) (σ : St) (H : Hp) (Q : VK), Inv X pins σ H s → t σ H Q → wpAny (model X.prog X.w) X.A (eval e X.env) (EP X pins σ Q) X.xe s
def PT (X : Cx) (e : Expr) (t : TT) : Prop :=
  ∀ (pins : List (Addr × Obj)) (s : Shared) (σ : St) (H : Hp) (Q : Bool → Hp → Prop), Inv X pins σ H s → t σ H Q → wpAny (model X.prog X.w) X.A (isTrue e X.env (eval e X.env)) (TP X pins σ Q) X.xe s
/-- a test whatever its 'whole' is (and, or) -/
def PW (X : Cx) (e : Expr) (t : TT) : Prop :=
  ∀ (whole : Sem Value) (pins : List (Addr × Obj)) (s : Shared) (σ : St) (H : Hp) (Q : Bool → Hp → Prop), Inv X pins σ H s → t σ H Q → wpAny (model X.prog X.w) X.A (isTrue e X.env whole) (TP X pins σ Q) X.xe s
theorem PW.pt {X : Cx} {e : Expr} {t : TT} (h : PW X e t) : PT X e t := h _
/-- an argument list (no star), from the left -/
def PA (X : Cx) (es : List Expr) (t : TA) : Prop :=
  ∀ (pos : Pos) (pins : List (Addr × Obj)) (s : Shared) (σ : St) (H : Hp) (Q : List V → Hp → Prop), Inv X pins σ H s → t σ H Q → wpAny (model X.prog X.w) X.A (spliced (backTo pos (starEach es X.env))) (AP X pins σ Q) X.xe s
def PS (X : Cx) (st : Stmt) (t : TS) : Prop :=
  ∀ (pins : List (Addr × Obj)) (s : Shared) (σ : St) (H : Hp) (D : Ends), Inv X pins σ H s → t D σ H → wpAny (model X.prog X.w) X.A (exec st X.env) (SP X pins D) X.xe s
def PSs (X : Cx) (st : List Stmt) (t : TS) : Prop :=
  ∀ (pins : List (Addr × Obj)) (s : Shared) (σ : St) (H : Hp) (D : Ends), Inv X pins σ H s → t D σ H → wpAny (model X.prog X.w) X.A (execs st X.env) (SP X pins D) X.xe s
/-- weaken the end -/
theorem thn {α : Type} {t : Sem α} {Q Q' : α → Shared → Prop} {M : Model} {A : Around} {E : Value → Shared → Prop} {s : Shared} (h : wpAny M A t Q E s) (hQ : ∀ a s, Q a s → Q' a s) : wpAny M A t Q' E s := wpAny_mono h hQ fun _ _ x => x
end L2

namespace L2
open PySem PySem.Spec PyProof.Rows
section
variable {X : Cx}

/-! ### names and constants -/
def tVar (i : Nat) : TE := fun σ H Q => ∃ v, σ[i]? = some (some v) ∧ Q v H
def tC (v : V) : TE := fun _ H Q => Q v H
theorem pe_var {i : Nat} {x : Str} {pos : Pos} (hN : X.N[i]? = some x) (hv : Vis X.env.scope x) (hd : (x == ("__debug__" : Str)) = false := by decide) (hcd : (x == ("__classdict__" : Str)) = false := by decide) : PE X (.Name x pos) (tVar i) := by
  intro pins s σ H Q I h
  obtain ⟨v, e, h⟩ := h
  obtain ⟨m, hn, hl⟩ := I.loc
  obtain ⟨u, r, l⟩ := hl i x v hN e hv
  have fin : EP X pins σ Q u s := ⟨v, H, I, r, h⟩
  rcases l with ⟨hk, hm⟩ | ⟨hk, c, hc, hcell⟩
  · exact wpAny_Name (wpAny_loadName_local I.ok.kind hk hn hm fin) hd
  · rcases hk with hk | hk
    · exact wpAny_Name (wpAny_loadName_cell I.ok.kind hk hc hcell fin) hd
    · exact wpAny_Name (wpAny_loadName_free I.ok.kind hk hc hcell fin hcd) hd
theorem pe_int {i j pos} : PE X (.Constant (.int i) j pos) (tC (.int i)) := fun _ _ _ H _ I h => wpAny_Constant_int ⟨.int i, H, I.tok _, ⟨_, rfl⟩, h⟩
theorem pe_bl {b j pos} : PE X (.Constant (.bool b) j pos) (tC (.bl b)) := fun _ _ _ H _ I h => Constant_bool ⟨.bl b, H, I, rfl, h⟩
theorem pe_non {j pos} : PE X (.Constant .none j pos) (tC .non) := fun _ _ _ H _ I h => Constant_none ⟨.non, H, I, rfl, h⟩
theorem pe_str {x j pos} : PE X (.Constant (.str x) j pos) (tC (.str x)) := fun _ _ _ H _ I h => Calls.Constant_str ⟨.str x, H, I.tok _, ⟨_, rfl⟩, h⟩

/-- a global name of the def -/
def Gl (X : Cx) (x : Str) : Prop := X.env.kindOf x = some .globalImplicit
theorem ld_glob {E : Value → Shared → Prop} {pins : List (Addr × Obj)} {s : Shared} {σ : St} {H : Hp} {x : Str} {u : Value} {pos : Pos} {Q : Value → Shared → Prop} (I : Inv X pins σ H s) (hg : Gl X x) (hm : X.mg x = some u) (h : Q u s)
    (hd : (x == ("__debug__" : Str)) = false := by decide) : wpAny (model X.prog X.w) X.A (eval (.Name x pos) X.env) Q E s :=
  Calls.Name_function_global I.ok.kind hg (Calls.loadGlobal_global (by rw [I.ok.glob]; exact I.mod.glob.keeps I.bk) hm h) hd
theorem ld_blt {E : Value → Shared → Prop} {pins : List (Addr × Obj)} {s : Shared} {σ : St} {H : Hp} {x : Str} {u : Value} {pos : Pos} {Q : Value → Shared → Prop} (I : Inv X pins σ H s) (hg : Gl X x) (hm : X.mg x = none) (hv : bootBuiltins x = some u) (h : Q u s)
    (hn : x ≠ "__name__" := by decide) (hd : (x == ("__debug__" : Str)) = false := by decide) : wpAny (model X.prog X.w) X.A (eval (.Name x pos) X.env) Q E s := by
  obtain ⟨mb, h1, h2⟩ := I.mod.blt
  exact Calls.Name_function_global I.ok.kind hg (Calls.loadGlobal_builtin (by rw [I.ok.glob]; exact I.mod.glob.keeps I.bk) hm (by rw [I.ok.blt]; exact h1.keeps I.bk) ((h2 x hn).trans hv) h) hd
/-- a module's constant, a class, a function, as a value -/
theorem pe_glob {x : Str} {v : V} {u : Value} {pos : Pos} (hg : Gl X x) (hm : X.mg x = some u) (r : RelV v u) (hd : (x == ("__debug__" : Str)) = false := by decide) : PE X (.Name x pos) (tC v) :=
  fun _ _ _ H _ I h => ld_glob I hg hm ⟨v, H, I, r, h⟩ hd
theorem pe_bltn {x : Str} {v : V} {u : Value} {pos : Pos} (hg : Gl X x) (hm : X.mg x = none) (hv : bootBuiltins x = some u) (r : RelV v u) (hn : x ≠ "__name__" := by decide) (hd : (x == ("__debug__" : Str)) = false := by decide) : PE X (.Name x pos) (tC v) :=
  fun _ _ _ H _ I h => ld_blt I hg hm hv ⟨v, H, I, r, h⟩ hn hd

/-! ### arithmetic -/
variable {a b : Expr} {ta tb : TE} {pos : Pos}
/-! ### comparisons -/
/-- is None -/
def tIsN (ta : TE) : TE := fun σ H Q => ta σ H fun x H1 => Q (.bl (decide (x = .non))) H1
def tNotN (ta : TE) : TE := fun σ H Q => ta σ H fun x H1 => Q (.bl (!decide (x = .non))) H1
/-- a comparison as a value, as a test -/
def tB (t : TE) : TT := fun σ H Q => t σ H fun x H1 => ∃ c, x = .bl c ∧ Q c H1
/-- an expression whose value is a bool, as a test -/
theorem pt_val {e : Expr} {t : TE} (h : PE X e t) (he : ∀ whole, isTrue e X.env whole = (do let v ← whole; standAt e.pos; holding [v] (truthy v)) := by intro _; rfl) : PT X e (tB t) := by
  intro pins s σ H Q I hw
  refine isTrue_plain (thn (h pins s σ H _ I hw) fun v s1 ⟨x, H1, I1, r1, q1⟩ => ?_) (he _)
  obtain ⟨d, rfl, q⟩ := q1
  cases r1
  exact wpAny_truthy_bool ⟨H1, I1, q⟩

/-! ### and, or, not -/
variable {tA tB' : TT} {rest : List Expr}
def tAnd (t u : TT) : TT := fun σ H Q => t σ H fun c H1 => if c = true then u σ H1 Q else Q false H1
def tOr (t u : TT) : TT := fun σ H Q => t σ H fun c H1 => if c = true then Q true H1 else u σ H1 Q
def tNot (t : TT) : TT := fun σ H Q => t σ H fun c H1 => Q (!c) H1
theorem pw_and1 (ha : PT X a tA) : PW X (.BoolOp .And [a] pos) tA := by
  intro wh pins s σ H Q I h
  refine isTrue_and (thn (ha pins s σ H Q I h) fun c s1 e => ?_)
  cases c with
  | true => exact isTrue_and_nil e
  | false => exact e
theorem pw_or1 (ha : PT X a tA) : PW X (.BoolOp .Or [a] pos) tA := by
  intro wh pins s σ H Q I h
  refine isTrue_or (thn (ha pins s σ H Q I h) fun c s1 e => ?_)
  cases c with
  | false => exact isTrue_or_nil e
  | true => exact e
theorem pw_and (ha : PT X a tA) (hb : PW X (.BoolOp .And (b :: rest) pos) tB') : PW X (.BoolOp .And (a :: b :: rest) pos) (tAnd tA tB') := by
  intro wh pins s σ H Q I h
  refine isTrue_and (thn (ha pins s σ H _ I h) fun c s1 ⟨H1, I1, q1⟩ => ?_)
  cases c with
  | true => exact hb wh pins s1 σ H1 Q I1 q1
  | false => exact ⟨H1, I1, q1⟩
theorem pw_or (ha : PT X a tA) (hb : PW X (.BoolOp .Or (b :: rest) pos) tB') : PW X (.BoolOp .Or (a :: b :: rest) pos) (tOr tA tB') := by
  intro wh pins s σ H Q I h
  refine isTrue_or (thn (ha pins s σ H _ I h) fun c s1 ⟨H1, I1, q1⟩ => ?_)
  cases c with
  | true => exact ⟨H1, I1, q1⟩
  | false => exact hb wh pins s1 σ H1 Q I1 q1
theorem pt_not (ha : PT X a tA) : PT X (.UnaryOp .Not a pos) (tNot tA) := by
  intro pins s σ H Q I h
  exact isTrue_not (ha pins s σ H (fun c H1 => Q (!c) H1) I h)
/-- .. as values (bools) -/
def tAndV (ta tb : TE) : TE := fun σ H Q => ta σ H fun x H1 => ∃ c, x = .bl c ∧ if c = true then tb σ H1 Q else Q (.bl false) H1
def tOrV (ta tb : TE) : TE := fun σ H Q => ta σ H fun x H1 => ∃ c, x = .bl c ∧ if c = true then Q (.bl true) H1 else tb σ H1 Q
def tNotV (ta : TE) : TE := fun σ H Q => ta σ H fun x H1 => ∃ c, x = .bl c ∧ Q (.bl (!c)) H1
/-- a if t else b -/
def tIf (t : TT) (ta tb : TE) : TE := fun σ H Q => t σ H fun c H1 => if c = true then ta σ H1 Q else tb σ H1 Q
theorem pe_ifExp {c : Expr} (hc : PT X c tA) (ha : PE X a ta) (hb : PE X b tb) : PE X (.IfExp c a b pos) (tIf tA ta tb) := by
  intro pins s σ H Q I h
  refine wpAny_IfExp (thn (hc pins s σ H _ I h) fun d s1 ⟨H1, I1, q1⟩ => ?_)
  cases d with
  | true => exact ha pins s1 σ H1 Q I1 q1
  | false => exact hb pins s1 σ H1 Q I1 q1
end
end L2

namespace L2
open PySem PySem.Spec PyProof.Rows

/-! ### a list, a tuple that is read: tracked, frozen, or an object of the module -/
def SqL (K : PySem.W.Frag) (H : Hp) (a : Addr) (xs : List V) : Prop :=
  Rd H a (.lst xs) ∨
    ∃ (o : Obj) (its : Array Value) (n : Nat), K.lookup a = some o ∧ o.cls = .type "list" ∧ o.dict = none ∧ o.data = .seq its n ∧ its.size ≤ sizeLine ∧ Vals xs its.toList
def SqT (K : PySem.W.Frag) (H : Hp) (a : Addr) (xs : List V) : Prop :=
  Rd H a (.tup xs) ∨
    ∃ (o : Obj) (its : Array Value) (n : Nat), K.lookup a = some o ∧ o.cls = .type "tuple" ∧ o.data = .seq its n ∧ its.size ≤ sizeLine ∧ Vals xs its.toList
def absV : Value → Option V
  | .none => some .non
  | .bool b => some (.bl b)
  | .int i _ => some (.int i)
  | .str x _ => some (.str x)
  | .bytes b _ => some (.byt b)
  | .float b _ => some (.flt b)
  | .ref a => some (.ref a)
  | .type n => some (.ty n)
  | _ => none
theorem RelV.abs {x : V} {u : Value} (r : RelV x u) : absV u = some x := by
  cases x with
  | non => cases r; rfl
  | bl _ => cases r; rfl
  | int _ => obtain ⟨t, rfl⟩ := r; rfl
  | str _ => obtain ⟨t, rfl⟩ := r; rfl
  | byt _ => obtain ⟨t, rfl⟩ := r; rfl
  | flt _ => obtain ⟨t, rfl⟩ := r; rfl
  | ref _ => cases r; rfl
  | ty _ => cases r; rfl
theorem RelV.inj {x y : V} {u : Value} (r : RelV x u) (q : RelV y u) : x = y := Option.some.inj (r.abs.symm.trans q.abs)
theorem Vals.inj : ∀ {xs ys : List V} {us : List Value}, Vals xs us → Vals ys us → xs = ys
  | _, _, _, .nil, .nil => rfl
  | _, _, _, .cons r t, .cons r' t' => by rw [r.inj r', Vals.inj t t']
section
variable {X : Cx} {pins : List (Addr × Obj)} {σ : St} {H : Hp} {s : Shared} {a : Addr} {xs ys : List V}
theorem SqL.of {K : PySem.W.Frag} (h : H a = some (.lst xs)) : SqL K H a xs := .inl (.inl h)
theorem SqT.of {K : PySem.W.Frag} (h : H a = some (.tup xs)) : SqT K H a xs := .inl (.inl h)
theorem Inv.list (I : Inv X pins σ H s) (h : SqL X.K H a xs) : ∃ its : List Value, Vals xs its ∧ PlainL s.heap a its.toArray ∧ xs.length ≤ sizeLine := by
  rcases h with h | ⟨o, its, n, hk, hc, hd, hs, hz, r⟩
  · obtain ⟨z, its, n, r, e⟩ := h.ok I.hok
    exact ⟨its, r, ⟨_, n, e, rfl, rfl, rfl⟩, z⟩
  · refine ⟨its.toList, r, ⟨o, n, I.kIn a o hk, hc, hd, by simpa using hs⟩, ?_⟩
    have e := r.length
    simp only [Array.length_toList] at e
    omega
theorem Inv.tuple (I : Inv X pins σ H s) (h : SqT X.K H a xs) : ∃ its : List Value, Vals xs its ∧ IsTup s.heap a its.toArray ∧ xs.length ≤ sizeLine := by
  rcases h with h | ⟨o, its, n, hk, hc, hs, hz, r⟩
  · obtain ⟨z, its, r, p⟩ := h.ok I.hok
    exact ⟨its, r, p, z⟩
  · refine ⟨its.toList, r, ⟨o, I.kIn a o hk, hc, n, by simpa using hs⟩, ?_⟩
    have e := r.length
    simp only [Array.length_toList] at e
    omega
theorem Inv.list_inj (I : Inv X pins σ H s) (h : SqL X.K H a xs) (h' : SqL X.K H a ys) : xs = ys := by
  obtain ⟨its, r, ⟨o, n, e, _, _, d⟩, _⟩ := I.list h
  obtain ⟨its', r', ⟨o', n', e', _, _, d'⟩, _⟩ := I.list h'
  rw [e] at e'; cases e'
  rw [d] at d'
  injection d' with d1 _
  have : its = its' := by simpa using congrArg Array.toList d1
  subst this
  exact r.inj r'
end

/-! ### another wish about exceptions -/
abbrev Cx.wish (X : Cx) (E : Value → Shared → Prop) : Cx := { X with xe := E }
/-- no exception leaves -/
abbrev Cx.nox (X : Cx) : Cx := X.wish fun _ _ => False
theorem Cx.Ok.wish {X : Cx} (ok : X.Ok) (E : Value → Shared → Prop) : (X.wish E).Ok :=
  ⟨ok.mod, ok.kind, ok.glob, ok.blt, ok.above, ok.inj, ok.has, ok.cab, ok.hd, ok.frames, ok.stk, ok.exf, ok.bs, ok.bsz, ok.noex, ok.exfs, ok.funs, ok.frf⟩
theorem Cx.Ok.unwish {X : Cx} {E : Value → Shared → Prop} (ok : (X.wish E).Ok) : X.Ok :=
  ⟨ok.mod, ok.kind, ok.glob, ok.blt, ok.above, ok.inj, ok.has, ok.cab, ok.hd, ok.frames, ok.stk, ok.exf, ok.bs, ok.bsz, ok.noex, ok.exfs, ok.funs, ok.frf⟩
section
variable {X : Cx} {pins : List (Addr × Obj)} {σ : St} {H : Hp} {s : Shared} {E : Value → Shared → Prop}
theorem Inv.wish (I : Inv X pins σ H s) (E : Value → Shared → Prop) : Inv (X.wish E) pins σ H s := ⟨I.ok.wish E, I.os, I.bare, I.base, I.loc, I.cell, I.free, I.freeC, I.pin, I.hok, I.len⟩
theorem Inv.unwish (I : Inv (X.wish E) pins σ H s) : Inv X pins σ H s := ⟨I.ok.unwish, I.os, I.bare, I.base, I.loc, I.cell, I.free, I.freeC, I.pin, I.hok, I.len⟩
theorem SP.unwish {D : Ends} {f : Flow} {s' : Shared} (h : SP (X.wish E) pins D f s') : SP X pins D f s' := by
  cases f with
  | next => obtain ⟨σ', H', I, q⟩ := h; exact ⟨σ', H', I.unwish, q⟩
  | brk => obtain ⟨σ', H', I, q⟩ := h; exact ⟨σ', H', I.unwish, q⟩
  | cont => obtain ⟨σ', H', I, q⟩ := h; exact ⟨σ', H', I.unwish, q⟩
  | ret u => obtain ⟨v, σ', H', I, r, q⟩ := h; exact ⟨v, σ', H', I.unwish, r, q⟩
theorem PE.nox {e : Expr} {t : TE} (h : PE X.nox e t) : PE X e t := fun pins s σ H Q I hw =>
  wpAny_mono (h pins s σ H Q (I.wish _) hw) (fun _ _ ⟨v, H', I', r, q⟩ => ⟨v, H', I'.unwish, r, q⟩) fun _ _ z => False.elim z
theorem PT.nox {e : Expr} {t : TT} (h : PT X.nox e t) : PT X e t := fun pins s σ H Q I hw =>
  wpAny_mono (h pins s σ H Q (I.wish _) hw) (fun _ _ ⟨H', I', q⟩ => ⟨H', I'.unwish, q⟩) fun _ _ z => False.elim z
theorem PSs.nox {st : List Stmt} {t : TS} (h : PSs X.nox st t) : PSs X st t := fun pins s σ H D I hw =>
  wpAny_mono (h pins s σ H D (I.wish _) hw) (fun _ _ q => q.unwish) fun _ _ z => False.elim z
end

/-! ### blocks and small statements -/
section
variable {X : Cx} {st : Stmt} {rest : List Stmt} {t u : TS} {e : Expr} {te : TE} {pos : Pos}
def tNext : TS := fun D σ H => D.nx σ H
def tSeq (t u : TS) : TS := fun D σ H => t { D with nx := u D } σ H
theorem pss_nil : PSs X [] tNext := fun _ _ σ H _ I h => wpAny_execs_nil ⟨σ, H, I, h⟩
theorem pss_cons (h1 : PS X st t) (h2 : PSs X rest u) : PSs X (st :: rest) (tSeq t u) := by
  intro pins s σ H D I h
  refine wpAny_execs_cons (thn (h1 pins s σ H { D with nx := u D } I h) fun f s1 q => ?_)
  cases f with
  | next =>
    obtain ⟨σ', H', I', q⟩ := q
    exact h2 pins s1 σ' H' D I' q
  | ret v => exact q
  | brk => exact q
  | cont => exact q
theorem pss_one (h1 : PS X st t) : PSs X [st] t := by
  intro pins s σ H D I h
  refine wpAny_execs_cons (thn (h1 pins s σ H D I h) fun f s1 q => ?_)
  cases f with
  | next => exact wpAny_execs_nil q
  | ret v => exact q
  | brk => exact q
  | cont => exact q
def tBreak : TS := fun D σ H => D.bk σ H
def tCont : TS := fun D σ H => D.ct σ H
/-- in a def's body nothing is shown -/
theorem Inv.quiet {pins : List (Addr × Obj)} {σ : St} {H : Hp} {s : Shared} (I : Inv X pins σ H s) : interactive X.env = false := by simp [interactive, I.ok.kind]
/-- an expression whose value is dropped -/
def tDrop (te : TE) : TS := fun D σ H => te σ H fun _ H1 => D.nx σ H1
theorem ps_expr (he : PE X e te) (hs : swapsWith e none pos.line X.env = pure false := by rfl) : PS X (.Expr e pos) (tDrop te) := by
  intro pins s σ H D I h
  exact wpAny_Expr_any (thn (he pins s σ H _ I h) fun v s1 ⟨x, H1, I1, r1, q1⟩ => ⟨σ, H1, I1, q1⟩) I.quiet hs
def tRet (te : TE) : TS := fun D σ H => te σ H D.rt
theorem ps_ret (he : PE X e te) : PS X (.Return (some e) pos) (tRet te) := by
  intro pins s σ H D I h
  exact wpAny_Return_some (thn (he pins s σ H _ I h) fun v s1 ⟨x, H1, I1, r1, q1⟩ => ⟨x, σ, H1, I1, r1, q1⟩)
def tRetN : TS := fun D _ H => D.rt .non H
def tIfS (c : TT) (t u : TS) : TS := fun D σ H => c σ H fun b H1 => if b = true then t D σ H1 else u D σ H1
theorem ps_if {c : Expr} {a b : List Stmt} {tc : TT} (hc : PT X c tc) (ha : PSs X a t) (hb : PSs X b u) : PS X (.If c a b pos) (tIfS tc t u) := by
  intro pins s σ H D I h
  refine wpAny_If (thn (hc pins s σ H _ I h) fun d s1 ⟨H1, I1, q1⟩ => ?_)
  cases d with
  | true => exact ha pins s1 σ H1 D I1 q1
  | false => exact hb pins s1 σ H1 D I1 q1
end

/-! ### targets -/
abbrev TG := V → St → Hp → (St → Hp → Prop) → Prop
abbrev TGs := List V → St → Hp → (St → Hp → Prop) → Prop
def PG (X : Cx) (target : Expr) (t : TG) : Prop :=
  ∀ (pins : List (Addr × Obj)) (s : Shared) (σ : St) (H : Hp) (v : V) (u : Value) (Q : St → Hp → Prop), Inv X pins σ H s → RelV v u → t v σ H Q →
    wpAny (model X.prog X.w) X.A (assign target X.env u) (fun _ s' => ∃ σ' H', Inv X pins σ' H' s' ∧ Q σ' H') X.xe s
/-- several targets, one after another -/
def PGs (X : Cx) (ts : List Expr) (t : TGs) : Prop :=
  ∀ (pins : List (Addr × Obj)) (s : Shared) (σ : St) (H : Hp) (vs : List V) (us : List Value) (Q : St → Hp → Prop), Inv X pins σ H s → Vals vs us → t vs σ H Q →
    wpAny (model X.prog X.w) X.A (assignInOrder ((assignEach ts X.env).map (·.2)) us) (fun _ s' => ∃ σ' H', Inv X pins σ' H' s' ∧ Q σ' H') X.xe s
section
variable {X : Cx} {pos : Pos}
def gName (i : Nat) : TG := fun v σ H Q => Q (σ.set i (some v)) H
theorem pg_name {i : Nat} {x : Str} (hN : X.N.Nodup) (hi : X.N[i]? = some x) (hx : Loc X.env.scope x) (hf : X.fn x = true ∨ X.env.scope.names.lookup x = some .local := by first | exact .inl rfl | exact .inr rfl | assumption) : PG X (.Name x pos) (gName i) := by
  intro pins s σ H v u Q I r h
  exact wpAny_assign_Name (store_ok I hN hi hx r (fun s' I' => ⟨_, H, I', h⟩) hf)
def gNil : TGs := fun vs σ H Q => vs = [] ∧ Q σ H
def gCons (t : TG) (u : TGs) : TGs := fun vs σ H Q => ∃ v r, vs = v :: r ∧ t v σ H fun σ' H' => u r σ' H' Q
theorem pgs_nil : PGs X [] gNil := by
  intro pins s σ H vs us Q I r h
  obtain ⟨e, h⟩ := h
  subst e
  cases r
  exact assignInOrder_nil ⟨σ, H, I, h⟩
theorem pgs_cons {e : Expr} {es : List Expr} {t : TG} {u : TGs} (h1 : PG X e t) (h2 : PGs X es u)
    (hs : (assignEach (e :: es) X.env).map (·.2) = assign e X.env :: (assignEach es X.env).map (·.2) := by rfl) : PGs X (e :: es) (gCons t u) := by
  intro pins s σ H vs us Q I r h
  obtain ⟨v, vr, e1, h⟩ := h
  subst e1
  cases r with
  | cons r rr =>
    rw [hs]
    refine assignInOrder_cons (thn (h1 pins s σ H _ _ _ I r h) fun _ s1 ⟨σ1, H1, I1, q1⟩ => ?_)
    exact h2 pins s1 σ1 H1 _ _ Q I1 rr q1
/-- (a, b, ..) = a tuple of that length -/
def gTup (K : PySem.W.Frag) (n : Nat) (t : TGs) : TG := fun v σ H Q => ∃ a xs, v = .ref a ∧ SqT K H a xs ∧ xs.length = n ∧ t xs σ H Q
theorem pg_tup {es : List Expr} {k : Nat} {t : TGs} {n : Nat} (hc : X.calm = true) (h : PGs X es t)
    (hn : (assignEach es X.env).length = n := by rfl) (hst : (assignEach es X.env).findIdx? (·.1) = none := by rfl) : PG X (.Tuple es k pos) (gTup X.K n t) := by
  intro pins s σ H v u Q I r hw
  obtain ⟨a, xs, e1, hq, hl, hw⟩ := hw
  subst e1
  cases r
  obtain ⟨its, rv, ht, hz⟩ := I.tuple hq
  refine assign_Tuple_tuple (I.ok.hd hc) ht (by simp [hn, ← hl, rv.length]) hst fun h' hx => ?_
  have I1 : Inv X pins σ H { s with heap := h' } := I.kept (t' := s.toks) fun b o e => hx b o (Nat.ne_of_lt (Heap.lt_size e)) e
  exact h pins _ σ H xs _ Q I1 (by simpa using rv) hw
/-- target = value -/
def tAsg (te : TE) (g : TG) : TS := fun D σ H => te σ H fun x H1 => g x σ H1 D.nx
/-- name = value -/
theorem ps_set {i : Nat} {x : Str} {e : Expr} {te : TE} {pos' : Pos} (hN : X.N.Nodup) (hi : X.N[i]? = some x) (hx : Loc X.env.scope x) (he : PE X e te) (hs : swapsWith e (some (.Name x pos')) pos.line X.env = pure false := by rfl) (hf : X.fn x = true ∨ X.env.scope.names.lookup x = some .local := by first | exact .inl rfl | exact .inr rfl | assumption) :
    PS X (.Assign [.Name x pos'] e pos) (tAsg te (gName i)) := by
  intro pins s σ H D I h
  refine wpAny_Assign_Name (thn (he pins s σ H _ I h) fun v s1 ⟨y, H1, I1, r1, q1⟩ => ?_) hs
  exact store_ok I1 hN hi hx r1 (fun s2 I2 => ⟨_, H1, I2, q1⟩) hf
end

/-! ### while -/
section
variable {X : Cx} {pos : Pos}
/-- the invariant W with its measure -/
def tWhile (c : TT) (tb : TS) : TS := fun D σ H => ∃ W : Nat → St → Hp → Prop, (∃ m, W m σ H) ∧ ∀ m σ H, W m σ H →
  c σ H fun b H1 => if b = true then ∃ N : St → Hp → Prop, (∀ σ' H', N σ' H' → ∃ m', m' < m ∧ W m' σ' H') ∧ tb { D with nx := N, ct := N, bk := D.nx } σ H1 else D.nx σ H1
theorem ps_while {c : Expr} {body : List Stmt} {tc : TT} {tb : TS} (hp : PassesOwn (model X.prog X.w) X.A X.env X.xe) (hc : PT X c tc) (hb : PSs X body tb) : PS X (.While c body [] pos) (tWhile tc tb) := by
  intro pins s σ H D I h
  obtain ⟨W, ⟨m0, w0⟩, turn⟩ := h
  refine wpAny_While (codeAny_whileLoop (fun n s' => ∃ σ' H', Inv X pins σ' H' s' ∧ W n σ' H') ?_ m0 ⟨σ, H, I, w0⟩)
  rintro n s1 ⟨σ1, H1, I1, w1⟩
  refine wpAny_passesOwn hp (thn (hc pins s1 σ1 H1 _ I1 (turn n σ1 H1 w1)) fun b s2 ⟨H2, I2, q2⟩ => ?_)
  cases b with
  | true =>
    obtain ⟨N, hN, q2⟩ := q2
    rw [if_pos rfl]
    refine wpAny_passesOwn hp (thn (hb pins s2 σ1 H2 _ I2 q2) fun f s3 q3 => ?_)
    cases f with
    | next =>
      obtain ⟨σ3, H3, I3, n3⟩ := q3
      obtain ⟨m', hm, w3⟩ := hN σ3 H3 n3
      exact ⟨m', hm, σ3, H3, I3, w3⟩
    | cont =>
      obtain ⟨σ3, H3, I3, n3⟩ := q3
      obtain ⟨m', hm, w3⟩ := hN σ3 H3 n3
      exact ⟨m', hm, σ3, H3, I3, w3⟩
    | brk => exact q3
    | ret v => exact q3
  | false =>
    rw [if_neg Bool.false_ne_true]
    exact wpAny_execs_nil ⟨σ1, H2, I2, q2⟩
end

/-! ### what a loop or a comprehension walks -/
/-- at turn i: it yields x (the heap may grow), or it stops -/
structure It where
  go : Nat → Hp → Prop
  yld : Nat → Hp → V → Hp → Prop
  stop : Nat → Hp → Prop
/-- the iterator's own objects may turn: they are not the frame's, not pinned, younger than the entry (or a comprehension's own) -/
def FpOk (X : Cx) (pins : List (Addr × Obj)) (H : Hp) (b : Addr) : Prop :=
  H b = none ∧ b ≠ X.env.locals ∧ b ∉ X.fs ∧ (b ∈ X.ex ∨ X.s₀.heap.objs.size ≤ b) ∧ (∀ x c, X.env.cells.lookup x = some c → c ≠ b) ∧ ∀ p ∈ X.pn ++ pins, p.1 ≠ b
theorem Inv.fpOk {X : Cx} {pins : List (Addr × Obj)} {σ : St} {H H' : Hp} {s : Shared} {b : Addr} (I : Inv X pins σ H s) (hb : s.heap.objs.size ≤ b) (hn : H' b = none) : FpOk X pins H' b := by
  refine ⟨hn, Nat.ne_of_gt (Nat.lt_of_lt_of_le I.lt hb), I.nofs hb, .inr (Nat.le_trans I.sz hb), fun x c e z => ?_, fun p hp z => ?_⟩
  · obtain ⟨v, q⟩ := I.cell x c e
    exact absurd (Nat.lt_of_lt_of_le q.lt (by rw [z]; exact hb)) (Nat.lt_irrefl _)
  · exact absurd (Nat.lt_of_lt_of_le (Heap.lt_size (I.pin p hp).1) (by rw [z]; exact hb)) (Nat.lt_irrefl _)
structure Turn (P : Program) (w : World) (K : PySem.W.Frag) (tg : Expr) (J : It) (fp : List Addr) (it : Addr) (tn : Nat → Heap → Prop) : Prop where
  mem : it ∈ fp
  obj : ∀ i h, tn i h → ∀ b ∈ fp, ∃ o, h.get? b = some o ∧ ∀ v, o.data ≠ .cell v
  keep : ∀ i h h', tn i h → (∀ b ∈ fp, ∀ o, h.get? b = some o → h'.get? b = some o) → tn i h'
  item : ∀ (X : Cx), X.prog = P → X.w = w → X.K = K → X.calm = true → ∀ (i : Nat) (pins : List (Addr × Obj)) (s : Shared) (σ : St) (H : Hp) (E : Value → Shared → Prop), Inv X pins σ H s → (∀ b ∈ fp, FpOk X pins H b) → tn i s.heap → J.go i H →
    wpAny (model P w) X.A (pyNext (.ref it)) (fun r s1 => ∃ u, r = some u ∧
      wpAny (model P w) X.A (letOwnedTupleGo tg (.ref it) u) (fun _ s2 => ∃ x H', Inv X pins σ H' s2 ∧ RelV x u ∧ J.yld i H x H' ∧ tn (i + 1) s2.heap ∧ ∀ b ∈ fp, H' b = none) E s1) E s
  done : ∀ (X : Cx), X.prog = P → X.w = w → X.K = K → X.calm = true → ∀ (i : Nat) (pins : List (Addr × Obj)) (s : Shared) (σ : St) (H : Hp) (E : Value → Shared → Prop), Inv X pins σ H s → (∀ b ∈ fp, FpOk X pins H b) → tn i s.heap → J.stop i H →
    wpAny (model P w) X.A (pyNext (.ref it)) (fun r s1 => r = none ∧ Inv X pins σ H s1) E s
  self : ∀ (A : Around) (i : Nat) (s : Shared) (Q : Value → Shared → Prop) (E : Value → Shared → Prop), tn i s.heap → Q (.ref it) s → wpAny (model P w) A (pyIter (.ref it)) Q E s
abbrev TI := St → Hp → (It → Hp → Prop) → Prop
/-- an iterator has come -/
def PIE (X : Cx) (pins : List (Addr × Obj)) (σ : St) (tg : Expr) (R : It → Hp → Prop) (itv : Value) (s2 : Shared) : Prop :=
  ∃ (it : Addr) (fp : List Addr) (tn : Nat → Heap → Prop) (J : It) (H' : Hp), itv = .ref it ∧ Inv X pins σ H' s2 ∧ Turn X.prog X.w X.K tg J fp it tn ∧ tn 0 s2.heap ∧ (∀ b ∈ fp, FpOk X pins H' b) ∧ R J H'
def PI (X : Cx) (tg iter : Expr) (wi : TI) : Prop :=
  ∀ (pins : List (Addr × Obj)) (s : Shared) (σ : St) (H : Hp) (R : It → Hp → Prop), Inv X pins σ H s → wi σ H R →
    wpAny (model X.prog X.w) X.A (eval iter X.env) (fun v s1 => wpAny (model X.prog X.w) X.A (pyIter v) (PIE X pins σ tg R) X.xe s1) X.xe s

/-- the step ahead of the store is nothing for an iterator that keeps no tuple -/
theorem go_of {M : Model} {A : Around} {E : Value → Shared → Prop} {s : Shared} {tg : Expr} {it : Addr} {u : Value} {o : Obj} {n : String} {vs : Array Value} {Q : Unit → Shared → Prop} (ho : s.heap.get? it = some o) (hc : o.cls = .type n) (hd : o.data = .fields vs)
    (hn : ["enumerate", "zip", "dict_itemiterator", "dict_reverseitemiterator", "odict_iterator", "itertools.zip_longest", "itertools.pairwise"].contains n = false) (hQ : Q () s) : wpAny M A (letOwnedTupleGo tg (.ref it) u) Q E s := by
  unfold letOwnedTupleGo
  cases tg <;> first
    | exact wpAny_pure hQ
    | (cases u <;> first
        | exact wpAny_pure hQ
        | (refine wpAny_bind (wpAny_load ho ?_)
           rw [hc, hd]
           show wpAny M A (if (["enumerate", "zip", "dict_itemiterator", "dict_reverseitemiterator", "odict_iterator", "itertools.zip_longest", "itertools.pairwise"].contains n && vs[0]? == some (rawInt _)) = true then _ else _) Q E s
           rw [if_neg (by intro h; rw [hn, Bool.false_and] at h; cases h)]
           exact wpAny_pure hQ))

/-- the list at a, as it stands at each turn (a loop may append to it) -/
def Itl (K : PySem.W.Frag) (a : Addr) : It :=
  ⟨fun i H => ∃ xs x, SqL K H a xs ∧ xs[i]? = some x, fun i H x H' => H' = H ∧ ∀ xs, SqL K H a xs → xs[i]? = some x, fun i H => ∃ xs, SqL K H a xs ∧ xs.length ≤ i⟩
/-- lo, lo + 1, .. (n of them) -/
def Itr (lo : Int) (n : Nat) : It := ⟨fun i _ => i < n, fun i H x H' => H' = H ∧ x = .int (lo + i), fun i _ => n ≤ i⟩
theorem turn_list {P : Program} {w : World} {K : PySem.W.Frag} {tg : Expr} (a it : Addr) : Turn P w K tg (Itl K a) [it] it (fun i h => h.IsListIter it a i) where
  mem := by simp
  obj := fun i h st b hb => by
    have e : b = it := by simpa using hb
    subst e
    obtain ⟨o, e, c, d⟩ := st
    exact ⟨o, e, fun v z => by rw [d] at z; cases z⟩
  keep := fun i h h' st k => st.at fun o e => k it (by simp) o e
  item := by
    intro X hP hw hK hc i pins s σ H E I hf st hg
    subst hP hw hK
    obtain ⟨xs, x, hq, hx⟩ := hg
    obtain ⟨its, rv, p, hz⟩ := I.list hq
    obtain ⟨u, hu, ru⟩ := rv.get hx
    obtain ⟨f0, f1, f2, f3, f4, f5⟩ := hf it (by simp)
    refine wpAny_pyNext_list_item st p.isList (x := u) (by simpa using hu) fun h' st' sb => ?_
    have I1 : Inv X pins σ H { s with heap := h' } := I.turned (t' := s.toks) (fun b o hb e => (sb.2 b hb).trans e) f0 f1 f3 f4 f5
    obtain ⟨o, e, c, d⟩ := id st'
    exact ⟨u, rfl, go_of (s := { s with heap := h' }) e c d (by decide) ⟨x, H, I1, ru, ⟨rfl, fun ys hy => by rw [I.list_inj hy hq]; exact hx⟩, st', fun b hb => (hf b hb).1⟩⟩
  done := by
    intro X hP hw hK hc i pins s σ H E I hf st hg
    subst hP hw hK
    obtain ⟨xs, hq, hx⟩ := hg
    obtain ⟨its, rv, p, hz⟩ := I.list hq
    obtain ⟨f0, f1, f2, f3, f4, f5⟩ := hf it (by simp)
    have hl := rv.length
    exact wpAny_pyNext_list_end (I.ok.hd hc) st p.isList (by simp; omega) fun h' eb => ⟨rfl, I.turned (t' := s.toks) (fun b o hb e => eb b o hb e) f0 f1 f3 f4 f5⟩
  self := fun _ _ _ _ _ st h => wpAny_pyIter_listiter st h
theorem turn_range {P : Program} {w : World} {K : PySem.W.Frag} {tg : Expr} (it : Addr) (lo : Int) (n : Nat) : Turn P w K tg (Itr lo n) [it] it (fun i h => IsRangeIter h it (lo + (i : Nat) * 1) ((n : Int) - (i : Nat)) 1) where
  mem := by simp
  obj := fun i h st b hb => by
    have e : b = it := by simpa using hb
    subst e
    exact ⟨_, st, fun v z => by
      have z' : Data.fields _ = Data.cell v := z
      cases z'⟩
  keep := fun i h h' st k => k it (by simp) _ st
  item := by
    intro X hP hw hK hc i pins s σ H E I hf st hg
    subst hP hw hK
    obtain ⟨f0, f1, f2, f3, f4, f5⟩ := hf it (by simp)
    have W := Walks.range (prog := X.prog) (w := X.w) (I.ok.hd hc) it lo 1 n
    refine W.item i s _ _ hg st fun v h' tk hv st' kk => ?_
    obtain ⟨t, rfl⟩ := hv
    have I1 : Inv X pins σ H { s with heap := h', toks := tk } := I.turned (fun b o hb e => kk b o (by simpa using hb) e) f0 f1 f3 f4 f5
    refine ⟨_, rfl, go_of (s := { s with heap := h', toks := tk }) (n := "range_iterator") st' rfl rfl (by decide) ⟨.int (lo + i), H, I1, ⟨t, ?_⟩, ⟨rfl, rfl⟩, st', fun b hb => (hf b hb).1⟩⟩
    rw [Int.mul_one]
  done := by
    intro X hP hw hK hc i pins s σ H E I hf st hg
    subst hP hw hK
    obtain ⟨f0, f1, f2, f3, f4, f5⟩ := hf it (by simp)
    exact wpAny_pyNext_range_end (I.ok.hd hc) st (by have : n ≤ i := hg; omega) fun h' eb => ⟨rfl, I.turned (t' := s.toks) (fun b o hb e => eb b o hb e) f0 f1 f3 f4 f5⟩
  self := fun _ _ _ _ _ st h => wpAny_pyIter_rangeiter st h
end L2

namespace L2
open PySem PySem.Spec PyProof.Rows
section
variable {X : Cx} {tg : Expr}
def iList (K : PySem.W.Frag) (tl : TE) : TI := fun σ H R => tl σ H fun x H1 => ∃ a, x = .ref a ∧ (∃ xs, SqL K H1 a xs) ∧ R (Itl K a) H1
theorem pi_list {l : Expr} {tl : TE} (hl : PE X l tl) : PI X tg l (iList X.K tl) := by
  intro pins s σ H R I h
  refine thn (hl pins s σ H _ I h) fun v s1 ⟨x, H1, I1, r1, q1⟩ => ?_
  obtain ⟨a, e, ⟨xs, hq⟩, q⟩ := q1
  subst e
  cases r1
  obtain ⟨its, rv, p, hz⟩ := I1.list hq
  refine wpAny_pyIter_list p.isList ?_
  refine ⟨s1.heap.objs.size, [s1.heap.objs.size], _, _, H1, rfl, I1.kept (t' := s1.toks) fun b o e => Heap.get?_push_of_some _ e, turn_list a _, ⟨_, Heap.get?_push_size _ rfl, rfl, rfl⟩, fun b hb => ?_, q⟩
  have e : b = s1.heap.objs.size := by simpa using hb
  subst e
  exact I1.fpOk (Nat.le_refl _) (I1.hok.fresh (Nat.le_refl _))
/-- a range object just made, walked -/
theorem range_it {pins : List (Addr × Obj)} {σ : St} {H : Hp} {s : Shared} {R : It → Hp → Prop} {E : Value → Shared → Prop} {lo hi : Int} {t u v : Tok} {tk : Nat} (I : Inv X pins σ H s) (h1 : -(2 ^ 62) ≤ lo) (h2 : lo < 2 ^ 62) (h3 : -(2 ^ 62) ≤ hi) (h4 : hi < 2 ^ 62)
    (q : R (Itr lo (hi - lo).toNat) H) : wpAny (model X.prog X.w) X.A (pyIter (.ref s.heap.objs.size)) (PIE X pins σ tg R) E { s with heap := s.heap.push { cls := .type "range", data := .fields #[.int lo t, .int hi u, .int 1 v] }, toks := tk } := by
  refine wpAny_pyIter_range (IsRange.new ..) (small_one h1 h2 h3 h4) ?_
  have I1 : Inv X pins σ H { s with heap := s.heap.push { cls := .type "range", data := .fields #[.int lo t, .int hi u, .int 1 v] }, toks := tk } := I.kept fun b o e => Heap.get?_push_of_some _ e
  refine ⟨(s.heap.push { cls := .type "range", data := .fields #[.int lo t, .int hi u, .int 1 v] }).objs.size, [(s.heap.push { cls := .type "range", data := .fields #[.int lo t, .int hi u, .int 1 v] }).objs.size], _, _, H, rfl,
    I1.kept (t' := tk) fun b o e => Heap.get?_push_of_some _ e, turn_range _ lo (hi - lo).toNat, ?_, fun b hb => ?_, q⟩
  · have e1 : lo + ((0 : Nat) : Int) * 1 = lo := by simp
    have e2 : (((hi - lo).toNat : Nat) : Int) - ((0 : Nat) : Int) = Builtin.Range.rangeSize lo hi 1 := by rw [rangeSize_one]; split <;> omega
    show IsRangeIter _ _ (lo + ((0 : Nat) : Int) * 1) ((((hi - lo).toNat : Nat) : Int) - ((0 : Nat) : Int)) 1
    rw [e1, e2]
    exact Heap.get?_push_size _ rfl
  · have e : b = (s.heap.push { cls := .type "range", data := .fields #[.int lo t, .int hi u, .int 1 v] }).objs.size := by simpa using hb
    subst e
    exact I1.fpOk (Nat.le_refl _) (I1.hok.fresh (Nat.le_refl _))
def iRng1 (ta : TA) : TI := fun σ H R => ta σ H fun vs H1 => ∃ j : Int, vs = [.int j] ∧ -(2 ^ 62) ≤ j ∧ j < 2 ^ 62 ∧ R (Itr 0 j.toNat) H1
theorem pi_range1 {a : Expr} {ta : TA} {p pos : Pos} (hg : Gl X "range") (hm : X.mg "range" = none) (ha : PA X [a] ta) (hs : starEach [a] X.env = [(false, eval a X.env)] := by rfl) : PI X tg (.Call (.Name "range" p) [a] [] pos) (iRng1 ta) := by
  intro pins s σ H R I h
  refine Call_ (ld_blt I hg hm boot_range (PyProof.Rows.callWith_type1 (thn (ha pos pins s σ H _ I h) fun us s1 ⟨vs, H1, I1, r1, q1⟩ => ?_) hs rfl))
  obtain ⟨j, e, q1, q2, q⟩ := q1
  subst e
  cases r1 with
  | cons r rr =>
    cases rr
    obtain ⟨t, rfl⟩ := r
    exact call_range_1 (range_it I1 (by omega) (by omega) q1 q2 (by simpa using q))
/-! ### for -/
/-- W: the invariant by the turn and a measure; N: what the body is to reach -/
def tFor (wi : TI) (g : TG) (tb : TS) : TS := fun D σ H => wi σ H fun J H1 => ∃ W : Nat → Nat → St → Hp → Prop, (∃ m, W 0 m σ H1) ∧ ∀ i m σ H, W i m σ H →
  (J.stop i H ∧ D.nx σ H) ∨ (J.go i H ∧ ∃ N : St → Hp → Prop, (∀ σ' H', N σ' H' → ∃ m', m' < m ∧ W (i + 1) m' σ' H') ∧ ∀ x H', J.yld i H x H' → g x σ H' fun σ2 H2 => tb { D with nx := N, ct := N, bk := D.nx } σ2 H2)
/-- the records at fp as they stand -/
def pinsAt (fp : List Addr) (h : Heap) : List (Addr × Obj) := fp.filterMap fun b => (h.get? b).map fun o => (b, o)
theorem mem_pinsAt {fp : List Addr} {h : Heap} {b : Addr} {o : Obj} (hb : b ∈ fp) (e : h.get? b = some o) : (b, o) ∈ pinsAt fp h := List.mem_filterMap.mpr ⟨b, hb, by rw [e]; rfl⟩
theorem of_pinsAt {fp : List Addr} {h : Heap} {p : Addr × Obj} (hp : p ∈ pinsAt fp h) : p.1 ∈ fp ∧ h.get? p.1 = some p.2 := by
  obtain ⟨b, hb, e⟩ := List.mem_filterMap.mp hp
  cases q : h.get? b with
  | none => rw [q] at e; cases e
  | some o =>
    rw [q] at e
    have e' : (b, o) = p := Option.some.inj e
    subst e'
    exact ⟨hb, q⟩
theorem Inv.pinned {pins : List (Addr × Obj)} {σ : St} {H : Hp} {s : Shared} {fp : List Addr} (I : Inv X pins σ H s) (hf : ∀ b ∈ fp, FpOk X pins H b) (ho : ∀ b ∈ fp, ∃ o, s.heap.get? b = some o ∧ ∀ v, o.data ≠ .cell v) : Inv X (pins ++ pinsAt fp s.heap) σ H s :=
  I.pins_of fun p hp => (List.mem_append.mp hp).elim (fun z => I.pin p (List.mem_append_right _ z)) fun z => by
    obtain ⟨hb, e⟩ := of_pinsAt z
    obtain ⟨f0, f1, f2, _⟩ := hf p.1 hb
    obtain ⟨o, e', d⟩ := ho p.1 hb
    rw [e] at e'; cases e'
    exact ⟨e, f0, f1, f2, d⟩
theorem Inv.unpinned {pins pl : List (Addr × Obj)} {σ : St} {H : Hp} {s : Shared} (I : Inv X (pins ++ pl) σ H s) : Inv X pins σ H s := I.pins_of fun p hp => I.pin p (List.mem_append_right _ (List.mem_append_left _ hp))
theorem ps_for {iter : Expr} {body : List Stmt} {wi : TI} {g : TG} {tb : TS} {pos : Pos} (hp : PassesOwn (model X.prog X.w) X.A X.env X.xe) (hc : X.calm = true) (hi : PI X tg iter wi) (hg : PG X tg g) (hb : PSs X body tb)
    (hs : ∀ x, foldedSetIterable iter X.env x = pure x := by intro _; rfl) : PS X (.For tg iter body [] pos) (tFor wi g tb) := by
  intro pins s σ H D I h
  refine wpAny_For (thn (hi pins s σ H _ I h) fun v s1 h1 => thn h1 fun itv s2 h2 => ?_) hs
  obtain ⟨it, fp, tn, J, H2, e, I2, T, st2, f2, W, ⟨m0, w0⟩, turn⟩ := h2
  subst e
  -- what stays true of the iterator's objects through the loop
  have stat : ∀ {H' : Hp}, (∀ b ∈ fp, H' b = none) → ∀ b ∈ fp, FpOk X pins H' b := fun hn b hb => ⟨hn b hb, (f2 b hb).2⟩
  refine codeAny_forLoop_any (fun n s' => ∃ i σ' H', Inv X pins σ' H' s' ∧ tn i s'.heap ∧ (∀ b ∈ fp, H' b = none) ∧ W i n σ' H') ?_ m0 ⟨0, σ, H2, I2, st2, fun b hb => (f2 b hb).1, w0⟩
  rintro n s3 ⟨i, σ3, H3, I3, st3, fr3, w3⟩
  rcases turn i n σ3 H3 w3 with ⟨stop, qn⟩ | ⟨go, N, hN, step⟩
  · refine wpAny_passesOwn hp (thn (T.done X rfl rfl rfl hc i pins s3 σ3 H3 X.xe I3 (stat fr3) st3 stop) fun r s4 ⟨hr, I4⟩ => ?_)
    subst hr
    exact wpAny_execs_nil ⟨σ3, H3, I4, qn⟩
  · refine wpAny_passesOwn hp (thn (T.item X rfl rfl rfl hc i pins s3 σ3 H3 X.xe I3 (stat fr3) st3 go) fun r s4 ⟨u, hr, h4⟩ => ?_)
    subst hr
    refine wpAny_passesOwn hp (thn h4 fun _ s5 ⟨x, H5, I5, r5, y5, st5, fr5⟩ => ?_)
    have I5' := I5.pinned (stat fr5) (T.obj _ _ st5)
    refine wpAny_passesOwn hp (thn (hg _ s5 σ3 H5 x u _ I5' r5 (step x H5 y5)) fun _ s6 ⟨σ6, H6, I6, q6⟩ => ?_)
    refine wpAny_passesOwn hp (thn (hb _ s6 σ6 H6 _ I6 q6) fun f s7 q7 => ?_)
    have again : ∀ {σ7 : St} {H7 : Hp}, Inv X (pins ++ pinsAt fp s5.heap) σ7 H7 s7 → N σ7 H7 → ∃ m, m < n ∧ ∃ i σ' H', Inv X pins σ' H' s7 ∧ tn i s7.heap ∧ (∀ b ∈ fp, H' b = none) ∧ W i m σ' H' := fun {σ7 H7} I7 n7 => by
      obtain ⟨m', hm, w7⟩ := hN σ7 H7 n7
      refine ⟨m', hm, i + 1, σ7, H7, I7.unpinned, T.keep _ _ _ st5 fun b hb o e => (I7.pin (b, o) (List.mem_append_right _ (List.mem_append_right _ (mem_pinsAt hb e)))).1, fun b hb => ?_, w7⟩
      obtain ⟨o, e, d⟩ := T.obj _ _ st5 b hb
      exact (I7.pin (b, o) (List.mem_append_right _ (List.mem_append_right _ (mem_pinsAt hb e)))).2.1
    cases f with
    | next => obtain ⟨σ7, H7, I7, n7⟩ := q7; exact again I7 n7
    | cont => obtain ⟨σ7, H7, I7, n7⟩ := q7; exact again I7 n7
    | brk => obtain ⟨σ7, H7, I7, q7⟩ := q7; exact ⟨σ7, H7, I7.unpinned, q7⟩
    | ret v => obtain ⟨x7, σ7, H7, I7, r7, q7⟩ := q7; exact ⟨x7, σ7, H7, I7.unpinned, r7, q7⟩
end

/-! ### the forms one uses -/
/-- over a list that the body leaves as it is -/
theorem for_list {K : PySem.W.Frag} {a : Addr} {xs : List V} {g : TG} {tb : TS} {D : Ends} {σ : St} {H : Hp} (Pv : Nat → St → Hp → Prop) (h0 : Pv 0 σ H) (hl : ∀ i σ H, i ≤ xs.length → Pv i σ H → SqL K H a xs)
    (hs : ∀ i x σ H, xs[i]? = some x → Pv i σ H → g x σ H fun σ2 H2 => tb { D with nx := Pv (i + 1), ct := Pv (i + 1), bk := D.nx } σ2 H2) (hd : ∀ σ H, Pv xs.length σ H → D.nx σ H) :
    ∃ W : Nat → Nat → St → Hp → Prop, (∃ m, W 0 m σ H) ∧ ∀ i m σ H, W i m σ H →
      ((Itl K a).stop i H ∧ D.nx σ H) ∨ ((Itl K a).go i H ∧ ∃ N : St → Hp → Prop, (∀ σ' H', N σ' H' → ∃ m', m' < m ∧ W (i + 1) m' σ' H') ∧ ∀ x H', (Itl K a).yld i H x H' → g x σ H' fun σ2 H2 => tb { D with nx := N, ct := N, bk := D.nx } σ2 H2) := by
  refine ⟨fun i m σ H => m = xs.length - i ∧ i ≤ xs.length ∧ Pv i σ H, ⟨xs.length, by simp, Nat.zero_le _, h0⟩, ?_⟩
  rintro i m σ H ⟨rfl, hi, p⟩
  have q := hl i σ H hi p
  by_cases hlt : i < xs.length
  · refine .inr ⟨⟨xs, xs[i], q, by simp [hlt]⟩, Pv (i + 1), fun σ' H' p' => ⟨xs.length - (i + 1), by omega, rfl, hlt, p'⟩, fun x H' y => ?_⟩
    obtain ⟨e, y⟩ := y
    subst e
    exact hs i x σ _ (y xs q) p
  · have e : i = xs.length := by omega
    subst e
    exact .inl ⟨⟨xs, q, Nat.le_refl _⟩, hd σ H p⟩
theorem for_range {lo : Int} {n : Nat} {g : TG} {tb : TS} {D : Ends} {σ : St} {H : Hp} (Pv : Nat → St → Hp → Prop) (h0 : Pv 0 σ H)
    (hs : ∀ i σ H, i < n → Pv i σ H → g (.int (lo + i)) σ H fun σ2 H2 => tb { D with nx := Pv (i + 1), ct := Pv (i + 1), bk := D.nx } σ2 H2) (hd : ∀ σ H, Pv n σ H → D.nx σ H) :
    ∃ W : Nat → Nat → St → Hp → Prop, (∃ m, W 0 m σ H) ∧ ∀ i m σ H, W i m σ H →
      ((Itr lo n).stop i H ∧ D.nx σ H) ∨ ((Itr lo n).go i H ∧ ∃ N : St → Hp → Prop, (∀ σ' H', N σ' H' → ∃ m', m' < m ∧ W (i + 1) m' σ' H') ∧ ∀ x H', (Itr lo n).yld i H x H' → g x σ H' fun σ2 H2 => tb { D with nx := N, ct := N, bk := D.nx } σ2 H2) := by
  refine ⟨fun i m σ H => m = n - i ∧ i ≤ n ∧ Pv i σ H, ⟨n, by simp, Nat.zero_le _, h0⟩, ?_⟩
  rintro i m σ H ⟨rfl, hi, p⟩
  by_cases hlt : i < n
  · refine .inr ⟨hlt, Pv (i + 1), fun σ' H' p' => ⟨n - (i + 1), by omega, rfl, hlt, p'⟩, fun x H' y => ?_⟩
    obtain ⟨e, y⟩ := y
    subst e y
    exact hs i σ _ hlt p
  · have e : i = n := by omega
    subst e
    exact .inl ⟨Nat.le_refl _, hd σ H p⟩
end L2

namespace L2
open PySem PySem.Spec PyProof.Rows

abbrev R2 := V → V → Hp → VK → Prop
/-- a two-place operation on values: f is binaryOp op, inplaceOp op or compareOp op -/
def OpR (X : Cx) (f : Value → Value → Sem Value) (r : R2) : Prop :=
  ∀ (pins : List (Addr × Obj)) (s : Shared) (σ : St) (H : Hp) (x y : V) (v u : Value) (Q : VK), Inv X pins σ H s → RelV x v → RelV y u → r x y H Q →
    wpAny (model X.prog X.w) X.A (f v u) (EP X pins σ Q) X.xe s
/-- a one-place operation -/
def UnR (X : Cx) (f : Value → Sem Value) (r : V → Hp → VK → Prop) : Prop :=
  ∀ (pins : List (Addr × Obj)) (s : Shared) (σ : St) (H : Hp) (x : V) (v : Value) (Q : VK), Inv X pins σ H s → RelV x v → r x H Q →
    wpAny (model X.prog X.w) X.A (f v) (EP X pins σ Q) X.xe s
/-- a call of a value that is known (a builtin, a type) with values -/
def CallR (X : Cx) (f : Value) (r : List V → Hp → VK → Prop) : Prop :=
  ∀ (pins : List (Addr × Obj)) (s : Shared) (σ : St) (H : Hp) (xs : List V) (us : List Value) (Q : VK), Inv X pins σ H s → Vals xs us → r xs H Q →
    wpAny (model X.prog X.w) X.A (call f us) (EP X pins σ Q) X.xe s
def tOp (r : R2) (ta tb : TE) : TE := fun σ H Q => ta σ H fun x H1 => tb σ H1 fun y H2 => r x y H2 Q
def tUn (r : V → Hp → VK → Prop) (ta : TE) : TE := fun σ H Q => ta σ H fun x H1 => r x H1 Q
/-- ints in, under C, and a value out -/
def rI (C : Int → Int → Prop) (g : Int → Int → V) : R2 := fun x y H Q => ∃ i j, x = .int i ∧ y = .int j ∧ C i j ∧ Q (g i j) H
def rI0 (g : Int → Int → V) : R2 := fun x y H Q => ∃ i j, x = .int i ∧ y = .int j ∧ Q (g i j) H
def rU (g : Int → V) : V → Hp → VK → Prop := fun x H Q => ∃ i, x = .int i ∧ Q (g i) H

section
variable {X : Cx} {a b c : Expr} {ta tb tc : TE} {pos : Pos}

theorem binT (ha : PE X a ta) (hb : PE X b tb) {pins : List (Addr × Obj)} {s : Shared} {σ : St} {H : Hp} {R : V → V → Hp → Prop} (I : Inv X pins σ H s)
    (h : ta σ H fun x H1 => tb σ H1 fun y H2 => R x y H2) {Q : Value → Shared → Prop} {f : Value → Value → Sem Value}
    (hf : ∀ v u s2 x y H2, Inv X pins σ H2 s2 → RelV x v → RelV y u → R x y H2 → wpAny (model X.prog X.w) X.A (f v u) Q X.xe s2) :
    wpAny (model X.prog X.w) X.A (eval a X.env) (fun v s₁ => wpAny (model X.prog X.w) X.A (eval b X.env) (fun u s₂ => wpAny (model X.prog X.w) X.A (f v u) Q X.xe s₂) X.xe s₁) X.xe s := by
  refine thn (ha pins s σ H _ I h) fun v s1 ⟨x, H1, I1, r1, q1⟩ => ?_
  refine thn (hb pins s1 σ H1 _ I1 q1) fun u s2 ⟨y, H2, I2, r2, q2⟩ => ?_
  exact hf v u s2 x y H2 I2 r1 r2 q2

theorem pe_op {op : Operator} {r : R2} (ho : OpR X (binaryOp op) r) (ha : PE X a ta) (hb : PE X b tb) : PE X (.BinOp a op b pos) (tOp r ta tb) := by
  intro pins s σ H Q I h
  exact wpAny_BinOp (binT ha hb I h fun v u s2 x y H2 I2 rx ry q => ho pins s2 σ H2 x y v u Q I2 rx ry q)
theorem pe_un {op : UnaryOp} {r : V → Hp → VK → Prop} (ho : UnR X (unaryOp op) r) (ha : PE X a ta) : PE X (.UnaryOp op a pos) (tUn r ta) := by
  intro pins s σ H Q I h
  exact UnaryOp_ (thn (ha pins s σ H _ I h) fun v s1 ⟨x, H1, I1, r1, q1⟩ => ho pins s1 σ H1 x v Q I1 r1 q1)
/-! ### ints -/
theorem opI {f : Value → Value → Sem Value} {C : Int → Int → Prop} {g : Int → Int → Int}
    (rule : ∀ (i j : Int) (t u : Tok) (s : Shared) (Q : Value → Shared → Prop) (E : Value → Shared → Prop), C i j → Q (.int (g i j) s.toks) { s with toks := s.toks + 1 } → wpAny (model X.prog X.w) X.A (f (.int i t) (.int j u)) Q E s) :
    OpR X f (rI C fun i j => .int (g i j)) := by
  intro pins s σ H x y v u Q I rx ry h
  obtain ⟨i, j, rfl, rfl, hc, q⟩ := h
  obtain ⟨t, rfl⟩ := rx
  obtain ⟨t', rfl⟩ := ry
  exact rule i j t t' s _ _ hc ⟨.int (g i j), H, I.tok _, ⟨_, rfl⟩, q⟩
theorem opI0 {f : Value → Value → Sem Value} {g : Int → Int → Int}
    (rule : ∀ (i j : Int) (t u : Tok) (s : Shared) (Q : Value → Shared → Prop) (E : Value → Shared → Prop), Q (.int (g i j) s.toks) { s with toks := s.toks + 1 } → wpAny (model X.prog X.w) X.A (f (.int i t) (.int j u)) Q E s) :
    OpR X f (rI0 fun i j => .int (g i j)) := by
  intro pins s σ H x y v u Q I rx ry h
  obtain ⟨i, j, rfl, rfl, q⟩ := h
  obtain ⟨t, rfl⟩ := rx
  obtain ⟨t', rfl⟩ := ry
  exact rule i j t t' s _ _ ⟨.int (g i j), H, I.tok _, ⟨_, rfl⟩, q⟩
theorem opB0 {f : Value → Value → Sem Value} {g : Int → Int → Bool}
    (rule : ∀ (i j : Int) (t u : Tok) (s : Shared) (Q : Value → Shared → Prop) (E : Value → Shared → Prop), Q (.bool (g i j)) s → wpAny (model X.prog X.w) X.A (f (.int i t) (.int j u)) Q E s) :
    OpR X f (rI0 fun i j => .bl (g i j)) := by
  intro pins s σ H x y v u Q I rx ry h
  obtain ⟨i, j, rfl, rfl, q⟩ := h
  obtain ⟨t, rfl⟩ := rx
  obtain ⟨t', rfl⟩ := ry
  exact rule i j t t' s _ _ ⟨.bl (g i j), H, I, rfl, q⟩

def CDiv (i j : Int) : Prop := 0 < j ∧ j < 1073741824
def CMul (i j : Int) : Prop := (-(2 ^ 64) < i ∧ i < 2 ^ 64) ∨ (-(2 ^ 64) < j ∧ j < 2 ^ 64)
theorem CMul.ok {i j : Int} (h : CMul i j) : IntMulOk i j := by
  rcases h with ⟨h1, h2⟩ | ⟨h1, h2⟩
  · exact .of_left (intBits_le_64 h1 h2)
  · exact .of_right (intBits_le_64 h1 h2)
theorem op_add : OpR X (binaryOp .Add) (rI0 fun i j => .int (i + j)) := opI0 fun _ _ _ _ _ _ _ q => add_int q
theorem op_sub : OpR X (binaryOp .Sub) (rI0 fun i j => .int (i - j)) := opI0 fun _ _ _ _ _ _ _ q => sub_int q
/-- // by a positive divisor -/
theorem op_fdiv : OpR X (binaryOp .FloorDiv) (rI CDiv fun i j => .int (i / j)) := opI fun i j _ _ _ _ _ hc q => by
  have h1 : (0 : Int) < j := hc.1
  have h2 : j < 1073741824 := hc.2
  exact floordiv_int (by omega) (by rw [Int.fdiv_eq_ediv_of_nonneg i (by omega)]; exact q) (.inl (PyProof.noPylong_small (by omega)))
/-- % by a positive divisor of any size -/
theorem op_mod : OpR X (binaryOp .Mod) (rI (fun _ j => 0 < j) fun i j => .int (i % j)) := opI fun i j _ _ _ _ _ hc q => by
  have h1 : (0 : Int) < j := hc
  exact mod_int' (by omega) (by rw [Int.fmod_eq_emod_of_nonneg i (by omega)]; exact q)
theorem unI {f : Value → Sem Value} {g : Int → Int}
    (rule : ∀ (i : Int) (t : Tok) (s : Shared) (Q : Value → Shared → Prop) (E : Value → Shared → Prop), Q (.int (g i) s.toks) { s with toks := s.toks + 1 } → wpAny (model X.prog X.w) X.A (f (.int i t)) Q E s) :
    UnR X f (rU fun i => .int (g i)) := by
  intro pins s σ H x v Q I rx h
  obtain ⟨i, rfl, q⟩ := h
  obtain ⟨t, rfl⟩ := rx
  exact rule i t s _ _ ⟨.int (g i), H, I.tok _, ⟨_, rfl⟩, q⟩
theorem un_neg : UnR X (unaryOp .USub) (rU fun i => .int (-i)) := unI fun _ _ _ _ _ q => neg_int q
/-! ### bools among ints: n += (a < b) -/
end

/-! ### comparisons -/
/-- the scalars that == tells apart as data does -/
def scal : V → V → Bool
  | .non, .non => true | .non, .int _ => true | .int _, .non => true | .non, .bl _ => true | .bl _, .non => true | .non, .str _ => true | .str _, .non => true
  | .int _, .int _ => true | .bl _, .bl _ => true | .str _, .str _ => true | .byt _, .byt _ => true
  | .int _, .str _ => true | .str _, .int _ => true | .bl _, .str _ => true | .str _, .bl _ => true
  | _, _ => false
def rEq : R2 := fun x y H Q => scal x y = true ∧ Q (.bl (decide (x = y))) H
def rNe : R2 := fun x y H Q => scal x y = true ∧ Q (.bl (!decide (x = y))) H

theorem dec_int {i j : Int} : decide (V.int i = V.int j) = (i == j) := by
  rw [Bool.eq_iff_iff]
  simp
theorem dec_bl {i j : Bool} : decide (V.bl i = V.bl j) = (i == j) := by
  rw [Bool.eq_iff_iff]
  simp
theorem dec_str {i j : Str} : decide (V.str i = V.str j) = (i == j) := by
  rw [Bool.eq_iff_iff]
  simp
theorem dec_byt {i j : Array UInt8} : decide (V.byt i = V.byt j) = (i.toList == j.toList) := by
  rw [Bool.eq_iff_iff]
  cases i
  cases j
  simp

section
variable {X : Cx} {a b c : Expr} {ta tb tc : TE} {pos : Pos}
theorem fin_bl {pins : List (Addr × Obj)} {σ : St} {H : Hp} {s : Shared} {Q : VK} {k k' : Bool} (I : Inv X pins σ H s) (q : Q (.bl k) H) (e : k = k') : EP X pins σ Q (.bool k') s := by
  subst e
  exact ⟨.bl k, H, I, rfl, q⟩
theorem op_eq : OpR X (compareOp .Eq) rEq := by
  intro pins s σ H x y v u Q I rx ry h
  obtain ⟨hs, q⟩ := h
  cases x with
  | non =>
    cases rx
    cases y with
    | non => cases ry; exact PySem.EqNone.eq_none_none (fin_bl I q (by simp))
    | bl j => cases ry; exact PySem.EqNone.eq_none_bool (fin_bl I q (by simp))
    | int j => obtain ⟨t', rfl⟩ := ry; exact PySem.EqNone.eq_none_int (fin_bl I q (by simp))
    | str j => obtain ⟨t', rfl⟩ := ry; exact PySem.EqNone.eq_none_str (fin_bl I q (by simp))
    | _ => exact absurd (show false = true from hs) Bool.false_ne_true
  | bl i =>
    cases rx
    cases y with
    | non => cases ry; exact PySem.EqNone.eq_bool_none (fin_bl I q (by simp))
    | bl j => cases ry; exact eq_bool (fin_bl I q dec_bl)
    | str j => obtain ⟨t', rfl⟩ := ry; exact PySem.EqMixed.eq_bool_str (fin_bl I q (by simp))
    | _ => exact absurd (show false = true from hs) Bool.false_ne_true
  | int i =>
    obtain ⟨t, rfl⟩ := rx
    cases y with
    | non => cases ry; exact PySem.EqNone.eq_int_none (fin_bl I q (by simp))
    | int j => obtain ⟨t', rfl⟩ := ry; exact eq_int (fin_bl I q dec_int)
    | str j => obtain ⟨t', rfl⟩ := ry; exact PySem.EqMixed.eq_int_str (fin_bl I q (by simp))
    | _ => exact absurd (show false = true from hs) Bool.false_ne_true
  | str i =>
    obtain ⟨t, rfl⟩ := rx
    cases y with
    | non => cases ry; exact PySem.EqNone.eq_str_none (fin_bl I q (by simp))
    | bl j => cases ry; exact PySem.EqMixed.eq_str_bool (fin_bl I q (by simp))
    | int j => obtain ⟨t', rfl⟩ := ry; exact PySem.EqMixed.eq_str_int (fin_bl I q (by simp))
    | str j => obtain ⟨t', rfl⟩ := ry; exact eq_str (fin_bl I q dec_str)
    | _ => exact absurd (show false = true from hs) Bool.false_ne_true
  | byt i =>
    obtain ⟨t, rfl⟩ := rx
    cases y with
    | byt j => obtain ⟨t', rfl⟩ := ry; exact PySem.W.eq_bytes (fin_bl I q dec_byt)
    | _ => exact absurd (show false = true from hs) Bool.false_ne_true
  | _ => cases y <;> exact absurd (show false = true from hs) Bool.false_ne_true
theorem op_ne : OpR X (compareOp .NotEq) rNe := by
  intro pins s σ H x y v u Q I rx ry h
  obtain ⟨hs, q⟩ := h
  cases x with
  | non =>
    cases rx
    cases y with
    | non => cases ry; exact PySem.EqNone.ne_none_none (fin_bl I q (by simp))
    | bl j => cases ry; exact PySem.EqNone.ne_none_bool (fin_bl I q (by simp))
    | int j => obtain ⟨t', rfl⟩ := ry; exact PySem.EqNone.ne_none_int (fin_bl I q (by simp))
    | str j => obtain ⟨t', rfl⟩ := ry; exact PySem.EqNone.ne_none_str (fin_bl I q (by simp))
    | _ => exact absurd (show false = true from hs) Bool.false_ne_true
  | bl i =>
    cases rx
    cases y with
    | non => cases ry; exact PySem.EqNone.ne_bool_none (fin_bl I q (by simp))
    | bl j => cases ry; exact ne_bool (fin_bl I q (congrArg not dec_bl))
    | str j => obtain ⟨t', rfl⟩ := ry; exact PySem.EqMixed.ne_bool_str (fin_bl I q (by simp))
    | _ => exact absurd (show false = true from hs) Bool.false_ne_true
  | int i =>
    obtain ⟨t, rfl⟩ := rx
    cases y with
    | non => cases ry; exact PySem.EqNone.ne_int_none (fin_bl I q (by simp))
    | int j => obtain ⟨t', rfl⟩ := ry; exact ne_int (fin_bl I q (congrArg not dec_int))
    | str j => obtain ⟨t', rfl⟩ := ry; exact PySem.EqMixed.ne_int_str (fin_bl I q (by simp))
    | _ => exact absurd (show false = true from hs) Bool.false_ne_true
  | str i =>
    obtain ⟨t, rfl⟩ := rx
    cases y with
    | non => cases ry; exact PySem.EqNone.ne_str_none (fin_bl I q (by simp))
    | bl j => cases ry; exact PySem.EqMixed.ne_str_bool (fin_bl I q (by simp))
    | int j => obtain ⟨t', rfl⟩ := ry; exact PySem.EqMixed.ne_str_int (fin_bl I q (by simp))
    | str j => obtain ⟨t', rfl⟩ := ry; exact ne_str (fin_bl I q (congrArg not dec_str))
    | _ => exact absurd (show false = true from hs) Bool.false_ne_true
  | byt i =>
    obtain ⟨t, rfl⟩ := rx
    cases y with
    | byt j => obtain ⟨t', rfl⟩ := ry; exact PySem.W.ne_bytes (fin_bl I q (congrArg not dec_byt))
    | _ => exact absurd (show false = true from hs) Bool.false_ne_true
  | _ => cases y <;> exact absurd (show false = true from hs) Bool.false_ne_true

theorem op_lt : OpR X (compareOp .Lt) (rI0 fun i j => .bl (decide (i < j))) := opB0 fun _ _ _ _ _ _ _ q => lt_int q
theorem op_gt : OpR X (compareOp .Gt) (rI0 fun i j => .bl (decide (j < i))) := opB0 fun _ _ _ _ _ _ _ q => gt_int q
/-- two rules for one operation: by cases -/
theorem OpR.or {f : Value → Value → Sem Value} {r r' : R2} (h : OpR X f r) (h' : OpR X f r') : OpR X f (fun x y H Q => r x y H Q ∨ r' x y H Q) := by
  intro pins s σ H x y v u Q I rx ry q
  rcases q with q | q
  · exact h pins s σ H x y v u Q I rx ry q
  · exact h' pins s σ H x y v u Q I rx ry q

theorem nomark (b : Expr) {op : CmpOp} (h : op ≠ .In := by decide) (h2 : op ≠ .NotIn := by decide) : behindInMarks op b = false := by
  have e1 : (op == CmpOp.In) = false := by cases op <;> first | rfl | exact absurd rfl h
  have e2 : (op == CmpOp.NotIn) = false := by cases op <;> first | rfl | exact absurd rfl h2
  cases b <;> simp [behindInMarks, e1, e2]
/-- a comparison as a value; hm: nomark b, or (for in, not in) by with_unfolding_all rfl -/
theorem pe_cmpR {op : CmpOp} {r : R2} (ho : OpR X (compareOp op) r) (ha : PE X a ta) (hb : PE X b tb) (hm : behindInMarks op b = false) : PE X (.Compare a [op] [b] pos) (tOp r ta tb) := by
  intro pins s σ H Q I h
  exact wpAny_Compare1 (binT ha hb I h fun v u s2 x y H2 I2 rx ry q => ho pins s2 σ H2 x y v u Q I2 rx ry q) hm
/-- a reading of a value as a test -/
def tTest (t : TE) : TT := fun σ H Q => t σ H fun x H' => ∃ k, x = .bl k ∧ Q k H'
theorem pt_cmpR {op : CmpOp} {r : R2} (ho : OpR X (compareOp op) r) (ha : PE X a ta) (hb : PE X b tb) (hm : behindInMarks op b = false) : PT X (.Compare a [op] [b] pos) (tTest (tOp r ta tb)) := by
  intro pins s σ H Q I h
  refine wpAny_isTrue_Compare1 (thn (ha pins s σ H _ I h) fun v s1 ⟨x, H1, I1, r1, q1⟩ => thn (hb pins s1 σ H1 _ I1 q1) fun u s2 ⟨y, H2, I2, r2, q2⟩ =>
    thn (ho pins s2 σ H2 x y v u _ I2 r1 r2 q2) fun c s3 ⟨z, H3, I3, r3, k, e, q3⟩ => ?_) hm
  subst e
  cases r3
  exact wpAny_truthy_bool ⟨H3, I3, q3⟩
/-! ### truth -/
theorem line63 : (sizeLine : Nat) < 2 ^ 63 := by rw [sizeLine_eq]; decide
/-! ### strs and bytes -/
theorem op_add_str : OpR X (binaryOp .Add) (fun x y H Q => ∃ i j, x = .str i ∧ y = .str j ∧ i.length + j.length ≤ sizeLine ∧ Q (.str (i ++ j)) H) := by
  intro pins s σ H x y v u Q I rx ry h
  obtain ⟨i, j, rfl, rfl, hz, q⟩ := h
  obtain ⟨t, rfl⟩ := rx
  obtain ⟨t', rfl⟩ := ry
  exact add_str (fun t' tk => ⟨.str (i ++ j), H, I.tok _, ⟨_, rfl⟩, q⟩) hz
/-! ### scalar builtins, by CallR -/
theorem vals1 {x : V} {us : List Value} (r : Vals [x] us) : ∃ u, us = [u] ∧ RelV x u := by
  cases r with
  | cons r1 r2 => cases r2; exact ⟨_, rfl, r1⟩
theorem vals2 {x y : V} {us : List Value} (r : Vals [x, y] us) : ∃ u w', us = [u, w'] ∧ RelV x u ∧ RelV y w' := by
  cases r with
  | cons r1 r2 =>
    cases r2 with
    | cons r3 r4 => cases r4; exact ⟨_, _, rfl, r1, r3⟩
theorem call_min2 (hc : X.calm = true) : CallR X (.builtin "min") (fun xs H Q => ∃ i j, xs = [.int i, .int j] ∧ Q (.int (if j < i then j else i)) H) := by
  intro pins s σ H xs us Q I r h
  obtain ⟨i, j, rfl, q⟩ := h
  obtain ⟨u, w', rfl, ⟨t, rfl⟩, ⟨t', rfl⟩⟩ := vals2 r
  refine min_two_ints (I.ok.hd hc) fun h' tk k => ⟨_, H, I.kept k, ?_, q⟩
  by_cases hj : j < i
  · rw [if_pos hj, if_pos hj]; exact ⟨_, rfl⟩
  · rw [if_neg hj, if_neg hj]; exact ⟨_, rfl⟩
end
end L2

namespace L2
open PySem PySem.Spec PyProof.Rows

/-! ### an instance, its attributes a map -/
structure ObjM (h : Heap) (x dx C : Addr) (mA : Str → Option Value) : Prop where
  obj : h.get? x = some (PySem.W.instObj C dx)
  ns : h.Ns1 dx mA
  ne : dx ≠ x

theorem lookIn_ns {h : Heap} {dx : Addr} {mA : Str → Option Value} (n : h.Ns1 dx mA) : ∃ od, h.get? dx = some od ∧ ∀ name, PySem.W.lookIn name od = some (mA name) := by
  obtain ⟨o, es, ep, ho, hd, hk, _, hm⟩ := n
  refine ⟨o, ho, fun name => ?_⟩
  have e := hm name
  unfold nsFind findBy at e
  rw [← Array.find?_toList] at e
  unfold PySem.W.lookIn
  rw [hd]
  dsimp only
  split
  · rename_i y q
    rw [q] at e
    exact congrArg some e
  · rename_i q
    rw [q] at e
    have a : es.toList.any (·.refKey) = false := by
      rw [List.any_eq_false]
      intro y hy
      obtain ⟨z, t, hkey⟩ := hk y (Array.mem_toList_iff.mp hy)
      simp [DictEntry.refKey, hkey]
    have a' : ¬ es.toList.any (·.refKey) = true := by rw [a]; exact Bool.false_ne_true
    rw [if_neg a']
    exact congrArg some e

theorem ObjM.look {h : Heap} {x dx C : Addr} {mA : Str → Option Value} (I : ObjM h x dx C mA) : ∃ od, PySem.W.InstAt h x (PySem.W.instObj C dx) C (some od) ∧ ∀ name, PySem.W.lookIn name od = some (mA name) :=
  let ⟨od, ho, hl⟩ := lookIn_ns I.ns
  ⟨od, ⟨I.obj, rfl, rfl, ho⟩, hl⟩

section
variable {prog : Program} {w : World} {A : Around} {E : Value → Shared → Prop} {s : Shared} {K : PySem.W.Frag} {x dx C f : Addr} {mA : Str → Option Value} {name : Str} {v : Value}

end

/-! ### the attributes as a list of pairs -/
section
variable {P : Program} {w : World} {H H' : Hp} {h h' : Heap} {a C dx : Addr} {fs fs' : List (Str × V)}
theorem ins_get (hok : HOk P w H h) (e : H a = some (.ins C dx fs)) : ∃ mA, ObjM h a dx C mA ∧ (∀ f, RelO (fs.lookup f) (mA f)) ∧ PySem.Within mA (fs.map (·.1)) ∧ fs.length ≤ 1000 ∧ H dx = some (.own a) := by
  obtain ⟨d, z, ne, ob, mA, n, r, q⟩ := (show ObjOk P w H h a (.ins C dx fs) from hok a _ e)
  exact ⟨mA, ⟨ob, n, ne⟩, r, q, z, d⟩
end

/-! ### what of the text a class must have -/
structure Cls (K : PySem.W.Frag) (C : Addr) : Prop where
  pg : PySem.W.plainGet K C Str.empty = true
  hd : PySem.W.hasDictIn K C = true
  po : PySem.W.plainOver K C = true
  sa : PySem.W.findIn K (.ref C) "__setattr__" = some (some (.builtin "object.__setattr__"))
theorem Cls.get {K : PySem.W.Frag} {C : Addr} (c : Cls K C) (f : Str) : PySem.W.plainGet K C f = true := c.pg
/-- a constant of the class -/
structure Con (K : PySem.W.Frag) (C : Addr) (f : Str) (v : V) (u : Value) : Prop where
  at_ : PySem.W.findIn K (.ref C) f = some (some u)
  rel : RelV v u
  get : PySem.W.specialIn K u "__get__" = some none
  cp : PySem.W.copiedNames.contains f = false
/-- a method: a plain def of the class or of one above it -/
structure Meth (K : PySem.W.Frag) (C : Addr) (m : Str) (f : Addr) : Prop where
  at_ : PySem.W.findIn K (.ref C) m = some (some (.ref f))
  fn : PySem.W.isFn K (.ref f) = true
  kp : PySem.W.keepIn K (.ref f) = true

section
variable {X : Cx} {pins : List (Addr × Obj)} {σ : St} {H : Hp} {s : Shared} {a C dx : Addr} {fs : List (Str × V)} {f : Str} {v : V} {A : Around} {E : Value → Shared → Prop}

/-- a new instance, tracked, without attributes -/
theorem Inv.made (I : Inv X pins σ H s) : Inv X pins σ (upd (upd H s.heap.objs.size (.own (s.heap.objs.size + 1))) (s.heap.objs.size + 1) (.ins C s.heap.objs.size []))
    { s with heap := (s.heap.push PySem.W.emptyDict).push (PySem.W.instObj C s.heap.objs.size) } := by
  have e1 : (s.heap.push PySem.W.emptyDict).get? s.heap.objs.size = some PySem.W.emptyDict := Heap.get?_push_size s.heap rfl
  have e2 : ((s.heap.push PySem.W.emptyDict).push (PySem.W.instObj C s.heap.objs.size)).get? (s.heap.objs.size + 1) = some (PySem.W.instObj C s.heap.objs.size) := by
    have := Heap.get?_push_size (s.heap.push PySem.W.emptyDict) (o := PySem.W.instObj C s.heap.objs.size) rfl
    rwa [Heap.size_push] at this
  have e3 : (s.heap.push PySem.W.emptyDict).Ns s.heap.objs.size (fun _ => none) := ⟨PySem.W.emptyDict, #[], _, e1, rfl, (fun e he => absurd he (by simp)), fun _ => rfl⟩
  have I1 := I.laid (a := s.heap.objs.size) (o := .own (s.heap.objs.size + 1)) (h' := s.heap.push PySem.W.emptyDict) (t' := s.toks) (fun b u q => Heap.get?_push_of_some _ q) (Nat.le_refl _) ⟨_, e1⟩
  refine I1.laid (a := s.heap.objs.size + 1) (o := .ins C s.heap.objs.size []) (t' := s.toks) (fun b u q => Heap.get?_push_of_some _ q) (Nat.le_of_eq (Heap.size_push _ _)) ?_
  have ne : s.heap.objs.size ≠ s.heap.objs.size + 1 := Nat.ne_of_lt (Nat.lt_succ_self _)
  refine ⟨by rw [upd_ne ne, upd_same], Nat.zero_le _, ne, e2, fun _ => none, (Heap.Ns1.of_empty e3).at fun o q => Heap.get?_push_of_some _ q, fun _ => True.intro, fun y hy => absurd rfl hy⟩

end

/-! ### readings and rules -/
section
variable {X : Cx} {o e value : Expr} {f : Str} {pos pos' tpos : Pos} {ta tv : TE}
end

/-! ### isinstance -/
section
variable {X : Cx} {pins : List (Addr × Obj)} {σ : St} {H : Hp} {s : Shared} {A : Around} {E : Value → Shared → Prop} {Q : Value → Shared → Prop} {c : Value} {b : Bool}
/-- the type of a value, as the fragment's deciders take it; for an instance its class -/
inductive TyOf (K : PySem.W.Frag) (H : Hp) : V → Value → Prop where
  | non : TyOf K H .non (.type "NoneType")
  | bl (x : Bool) : TyOf K H (.bl x) (.type "bool")
  | int (i : Int) : TyOf K H (.int i) (.type "int")
  | str (x : Str) : TyOf K H (.str x) (.type "str")
  | flt (x : UInt64) : TyOf K H (.flt x) (.type "float")
  | lst {a : Addr} {xs : List V} (e : H a = some (.lst xs)) : TyOf K H (.ref a) (.type "list")
  | frz {a : Addr} {o : Obj} {xs : List V} (e : H a = some (.frz o (.lst xs))) : TyOf K H (.ref a) (.type "list")
  | tup {a : Addr} {xs : List V} (e : H a = some (.tup xs)) : TyOf K H (.ref a) (.type "tuple")
  | dK {a : Addr} {kvs : List (Key × V)} (e : H a = some (.dK kvs)) : TyOf K H (.ref a) (.type "dict")
  | dT {a : Addr} {kvs : List (List Key × V)} (e : H a = some (.dT kvs)) : TyOf K H (.ref a) (.type "dict")
  | ins {a C dx : Addr} {fs : List (Str × V)} (e : H a = some (.ins C dx fs)) (cl : Cls K C) (ha : PySem.W.findIn K (.ref C) "__class__" = some (some (.builtin "object.__class__")))
      (hn : PySem.W.specialIn K (.builtin "object.__class__") "__get__" = some (some (.builtin "getset_descriptor.__get__"))) (htk : PySem.W.takesIn K (.builtin "object.__class__") = some true)
      (hm : PySem.W.mroIn K C (.type "object") = some true) : TyOf K H (.ref a) (.ref C)
/-- isinstance(x, c) for one class c, a built-in or an own one: kitOne's answer -/
theorem isinst_ok {x : V} {u t : Value} (I : Inv X pins σ H s) (rx : RelV x u) (ty : TyOf X.K H x t) (e : PySem.W.kitOne X.K t c = some b) (h : ∀ tk, Q (.bool b) { s with toks := tk }) :
    wpAny (model X.prog X.w) A (call (.builtin "isinstance") [u, c]) Q E s := by
  cases ty with
  | non => cases (show u = Value.none from rx); exact PySem.W.kia_one PySem.W.kitx_none I.kIn True.intro e (fun z => nomatch z) h
  | bl y => cases (show u = Value.bool y from rx); exact PySem.W.kia_one PySem.W.kitx_bool I.kIn True.intro e (fun z => nomatch z) h
  | int i => obtain ⟨t, q⟩ := (show ∃ t, u = Value.int i t from rx); cases q; exact PySem.W.kia_one PySem.W.kitx_int I.kIn True.intro e (fun z => nomatch z) h
  | str y => obtain ⟨t, q⟩ := (show ∃ t, u = Value.str y t from rx); cases q; exact PySem.W.kia_one PySem.W.kitx_str I.kIn True.intro e (fun z => nomatch z) h
  | flt y => obtain ⟨t, q⟩ := (show ∃ t, u = Value.float y t from rx); cases q; exact PySem.W.kia_one PySem.W.kitx_float I.kIn True.intro e (fun z => nomatch z) h
  | @lst a xs ea =>
    cases (show u = Value.ref a from rx)
    obtain ⟨_, _, n, _, h1⟩ := (show ObjOk X.prog X.w H s.heap a (.lst xs) from I.hok a _ ea)
    exact PySem.W.kia_one PySem.W.kitx_list I.kIn ⟨_, h1, rfl⟩ e (fun z => nomatch z) h
  | @frz a ob xs ea =>
    cases (show u = Value.ref a from rx)
    obtain ⟨_, _, _, n, _, h1⟩ := (show ObjOk X.prog X.w H s.heap a (.frz ob (.lst xs)) from I.hok a _ ea)
    exact PySem.W.kia_one PySem.W.kitx_list I.kIn ⟨_, h1, rfl⟩ e (fun z => nomatch z) h
  | @tup a xs ea =>
    cases (show u = Value.ref a from rx)
    obtain ⟨_, _, _, p⟩ := (show ObjOk X.prog X.w H s.heap a (.tup xs) from I.hok a _ ea)
    obtain ⟨o, h1, h2, _⟩ := p
    exact PySem.W.kia_one PySem.W.kitx_tuple I.kIn ⟨o, h1, h2⟩ e (fun z => nomatch z) h
  | @dK a kvs ea =>
    cases (show u = Value.ref a from rx)
    obtain ⟨_, _, vs, _, p⟩ := (show ObjOk X.prog X.w H s.heap a (.dK kvs) from I.hok a _ ea)
    obtain ⟨o, es, ep, h1, h2, _⟩ := p
    exact PySem.W.kia_one PySem.W.kitx_dict I.kIn ⟨o, h1, h2.1⟩ e (fun z => nomatch z) h
  | @dT a kvs ea =>
    cases (show u = Value.ref a from rx)
    obtain ⟨_, _, xs, _, o, es, ep, h1, h2, _⟩ := (show ObjOk X.prog X.w H s.heap a (.dT kvs) from I.hok a _ ea)
    exact PySem.W.kia_one PySem.W.kitx_dict I.kIn ⟨o, h1, h2.1⟩ e (fun z => nomatch z) h
  | @ins a C dx fs ea cl ha hn htk hm =>
    cases (show u = Value.ref a from rx)
    obtain ⟨mA, O, _⟩ := ins_get I.hok ea
    obtain ⟨od, J, _⟩ := O.look
    exact PySem.W.kia_one (PySem.W.kitx_own (cl.get _) cl.hd ha hn htk hm) I.kIn J e (fun z => nomatch z) h
end
end L2

namespace L2
open PySem PySem.Spec PyProof.Rows

/-! ### room -/
structure Room (k : Nat) (A : Around) : Prop where
  hd : A.handled = none
  dp : A.depth + 3 * k + 5 < recursionLimit
  un : A.units + 16 * k + 200 < cLine
theorem Room.mono {j k : Nat} {A : Around} (r : Room k A) (h : j ≤ k) : Room j A := ⟨r.hd, by have := r.dp; omega, by have := r.un; omega⟩
theorem Room.deeper {k : Nat} {A : Around} (r : Room (k + 1) A) (env : Env) : Room k (A.deeper env) :=
  ⟨r.hd, by have := r.dp; show A.depth + 1 + 3 * k + 5 < _; omega, by have := r.un; show A.units + 3 + 16 * k + 200 < _; omega⟩
theorem Room.depth {k : Nat} {A : Around} (r : Room k A) : A.depth < recursionLimit := by have := r.dp; omega
theorem Room.units {k : Nat} {A : Around} (r : Room k A) : A.units + 64 < cLine := by have := r.un; omega
/-! ### argument lists and displays -/
def tNil : TA := fun _ H Q => Q [] H
def tCons (ta : TE) (tr : TA) : TA := fun σ H Q => ta σ H fun x H1 => tr σ H1 fun xs H2 => Q (x :: xs) H2
section
variable {X : Cx} {e : Expr} {es : List Expr} {te : TE} {t : TA} {pos : Pos}
theorem pa_nil : PA X [] tNil := fun _ _ _ _ H Q I h => Calls.spliced_nil ⟨[], H, I, .nil, h⟩
theorem pa_cons (ha : PE X e te) (hr : PA X es t) (hs : starEach (e :: es) X.env = (false, eval e X.env) :: starEach es X.env := by rfl) : PA X (e :: es) (tCons te t) := by
  intro pos pins s σ H Q I h
  rw [hs]
  show wpAny _ _ (spliced ((false, eval e X.env) :: backTo pos (starEach es X.env))) _ _ s
  refine Calls.spliced_cons (thn (ha pins s σ H _ I h) fun u s1 ⟨x, H1, I1, r1, q1⟩ => ?_)
  exact thn (hr pos pins s1 σ H1 _ I1 q1) fun us s2 ⟨xs, H2, I2, r2, q2⟩ => ⟨x :: xs, H2, I2, .cons r1 r2, q2⟩

/-- a tuple, a list of written items -/
def tTup (t : TA) : TE := fun σ H Q => t σ H fun xs H1 => xs.length ≤ sizeLine ∧ ∀ p, H1 p = none → Q (.ref p) (upd H1 p (.tup xs))
def tLst (t : TA) : TE := fun σ H Q => t σ H fun xs H1 => xs.length ≤ sizeLine ∧ ∀ p, H1 p = none → Q (.ref p) (upd H1 p (.lst xs))
theorem pe_tup {x1} (h : PA X es t) : PE X (.Tuple es x1 pos) (tTup t) := by
  intro pins s σ H Q I hq
  refine wpAny_Tuple_spliced (thn (h pos pins s σ H _ I hq) fun us s1 ⟨xs, H1, I1, r, z, q⟩ => ⟨by rw [← r.length]; exact z, ?_⟩)
  have hf : H1 s1.heap.objs.size = none := I1.hok.fresh (Nat.le_refl _)
  refine ⟨.ref s1.heap.objs.size, upd H1 s1.heap.objs.size (.tup xs), I1.laid (t' := s1.toks) (fun b u e => Heap.get?_push_of_some _ e) (Nat.le_refl _) ?_, rfl, q _ hf⟩
  exact ⟨z, us, r, ⟨_, Heap.get?_push_size _ rfl, rfl, _, rfl⟩⟩
theorem pe_lst (h : PA X es t) : PE X (.List es pos) (tLst t) := by
  intro pins s σ H Q I hq
  refine wpAny_List_spliced (thn (h pos pins s σ H _ I hq) fun us s1 ⟨xs, H1, I1, r, z, q⟩ => ⟨by rw [← r.length]; exact z, ?_⟩)
  have hf : H1 s1.heap.objs.size = none := I1.hok.fresh (Nat.le_refl _)
  refine ⟨.ref s1.heap.objs.size, upd H1 s1.heap.objs.size (.lst xs), I1.laid (t' := s1.toks) (fun b u e => Heap.get?_push_of_some _ e) (Nat.le_refl _) ?_, rfl, q _ hf⟩
  exact ⟨z, us, 0, r, Heap.get?_push_size _ rfl⟩
end

/-! ### what a def promises -/
/-- a def's promise: the bound arguments in the parameters' order, the heap, the wanted end, the wanted exception -/
abbrev Sp := List V → Hp → VK → XK → Prop
/-- how an exception lies behind a call (file 08 gives it): the callers' frames, abstract heap and state ahead of the call, the wish, the exception, the state -/
abbrev CXT := List Env → Hp → Shared → XK → Value → Shared → Prop

/-- the state at a call -/
structure Env0 (P : Program) (w : World) (K : PySem.W.Frag) (mg : Str → Option Value) (base : Heap) (A : Around) (outer : List Env) (s : Shared) (H : Hp) : Prop where
  frames : A.frames = some outer
  mod : Mod K mg base
  bs : ∀ b o, base.get? b = some o → s.heap.get? b = some o ∧ H b = none
  bsz : base.objs.size ≤ s.heap.objs.size
  funs : s.heap.FunFrames base outer
  frf : ∀ b ∈ frs outer, H b = none
  hok : HOk P w H s.heap
  bare : AllBare s.gens
/-- a call's end -/
def CE (outer : List Env) (P : Program) (w : World) (H : Hp) (s : Shared) (Q : VK) (u : Value) (s' : Shared) : Prop :=
  ∃ v H', s'.os = s.os ∧ AllBare s'.gens ∧ Un (frs outer) [] H H' s.heap s'.heap ∧ HOk P w H' s'.heap ∧ RelV v u ∧ Q v H'
def CR (CX : CXT) (outer : List Env) (P : Program) (w : World) (H : Hp) (s : Shared) (Q : VK) (E : XK) (r : Result) (s' : Shared) : Prop :=
  match r with
  | .ok (.ret u) => CE outer P w H s Q u s'
  | .ok _ => False
  | .error e => CX outer H s E e s'
structure FnOk (P : Program) (w : World) (K : PySem.W.Frag) (mg : Str → Option Value) (base : Heap) (CX : CXT) (k : Nat) (f : Addr) (fd : FuncData) (ps : List Str) (sp : Sp) : Prop where
  len : ∀ vs H Q E, sp vs H Q E → vs.length = ps.length
  run : ∀ (A : Around) (outer : List Env) (s : Shared) (H : Hp) (args : Args) (us : List Value) (vs : List V) (Q : VK) (E : XK), Room k A → Env0 P w K mg base A outer s H → BindsTo s fd args (ps.zip us) → Vals vs us → sp vs H Q E →
    codeAny (model P w) A (.call (.ref f) args) (CR CX outer P w H s Q E) s
theorem FnOk.mono {P : Program} {w : World} {K : PySem.W.Frag} {mg : Str → Option Value} {base : Heap} {CX : CXT} {j k : Nat} {f : Addr} {fd : FuncData} {ps : List Str} {sp : Sp} (F : FnOk P w K mg base CX j f fd ps sp) (h : j ≤ k) :
    FnOk P w K mg base CX k f fd ps sp := ⟨F.len, fun A outer s H args us vs Q E hr => F.run A outer s H args us vs Q E (hr.mono h)⟩
/-- a weaker promise -/
theorem FnOk.imp {P : Program} {w : World} {K : PySem.W.Frag} {mg : Str → Option Value} {base : Heap} {CX : CXT} {k : Nat} {f : Addr} {fd : FuncData} {ps : List Str} {sp sp' : Sp} (F : FnOk P w K mg base CX k f fd ps sp)
    (h : ∀ vs H Q E, sp' vs H Q E → sp vs H Q E) : FnOk P w K mg base CX k f fd ps sp' :=
  ⟨fun vs H Q E q => F.len vs H Q E (h _ _ _ _ q), fun A outer s H args us vs Q E hr he hb hv hs => F.run A outer s H args us vs Q E hr he hb hv (h _ _ _ _ hs)⟩

section
variable {X : Cx} {pins : List (Addr × Obj)} {σ : St} {H : Hp} {s s' : Shared}
/-- from a body: what a callee wants -/
theorem Inv.env0 (I : Inv X pins σ H s) : Env0 X.prog X.w X.K X.mg X.base X.A X.stack s H :=
  ⟨I.ok.frames, I.ok.mod, I.bs, Nat.le_trans I.ok.bsz I.sz, I.stack, I.stkFree, I.hok, I.bare⟩
/-- behind a call -/
theorem Inv.after {Q : VK} {u : Value} (I : Inv X pins σ H s) (h : CE X.stack X.prog X.w H s Q u s') : EP X pins σ Q u s' := by
  obtain ⟨v, H', os, bare, un, hok, r, q⟩ := h
  obtain ⟨hh, g, d, t, os'⟩ := s'
  obtain rfl : os' = s.os := os
  exact ⟨v, H', I.call (h' := hh) (g' := g) (d' := d) (t' := t) (ch := []) un hok bare (fun b z => absurd z (by simp)), r, q⟩
end

/-! ### calls -/
/-- f(..): the written arguments, then the defaults dvs; E: what is wanted of an exception -/
def tCall (sp : Sp) (dvs : List V) (E : XK) (t : TA) : TE := fun σ H Q => t σ H fun vs H1 => sp (vs ++ dvs) H1 Q E
/-- how the parameters are bound: us the positional arguments, kw the keywords' values by name, ds the defaults that fill up -/
def Binds (K : PySem.W.Frag) (fd : FuncData) (ps : List Str) (ds : List Value) : Prop :=
  ∀ (s : Shared) (us : List Value), K.In s.heap → (us ++ ds).length = ps.length → BindsTo s fd ⟨us, []⟩ (ps.zip (us ++ ds))
/-- every parameter is given -/
theorem Binds.all {K : PySem.W.Frag} {fd : FuncData} {ps : List Str} (h : ∀ us : List Value, us.length = ps.length → bindArgs fd ⟨us, []⟩ = pure (ps.zip us)) : Binds K fd ps [] := fun s us _ hl => by
  rw [List.append_nil] at hl ⊢
  exact .of_eq (h us hl)

/-- an exception of a callee reaches what this body wants of exceptions -/
def Passes (CX : CXT) (X : Cx) (E : XK) : Prop := ∀ (pins : List (Addr × Obj)) (σ : St) (H : Hp) (s : Shared) (e : Value) (s' : Shared), Inv X pins σ H s → CX X.stack H s E e s' → X.xe e s'

section
variable {X : Cx} {CX : CXT} {k : Nat} {f C : Addr} {fd : FuncData} {ps : List Str} {sp : Sp} {dvs : List V} {ds : List Value} {E : XK} {x m : Str} {p pos apos : Pos} {e o : Expr} {es : List Expr} {ta : TE} {t : TA}

/-- the callee runs -/
theorem run_fn {pins : List (Addr × Obj)} {σ : St} {H : Hp} {s : Shared} {Q : VK} {us : List Value} {vs : List V} (F : FnOk X.prog X.w X.K X.mg X.base CX k f fd ps sp) (hr : Room k X.A) (hb : Binds X.K fd ps ds) (hd : Vals dvs ds) (hx : Passes CX X E)
    (I : Inv X pins σ H s) (r : Vals vs us) (h : sp (vs ++ dvs) H Q E) : wpAny (model X.prog X.w) X.A (call (.ref f) us) (EP X pins σ Q) X.xe s := by
  have r2 : Vals (vs ++ dvs) (us ++ ds) := r.append hd
  have hl : (us ++ ds).length = ps.length := by rw [← r2.length]; exact F.len _ _ _ _ h
  refine wpAny_call (codeAny_mono (F.run X.A X.stack s H ⟨us, []⟩ (us ++ ds) (vs ++ dvs) Q E hr I.env0 (hb s us I.kIn hl) r2 h) fun r s' hq => ?_)
  cases r with
  | error e => exact hx pins σ H s e s' I hq
  | ok fl =>
    cases fl with
    | ret u => exact I.after hq
    | next => exact False.elim hq
    | brk => exact False.elim hq
    | cont => exact False.elim hq

theorem pe_call (F : FnOk X.prog X.w X.K X.mg X.base CX k f fd ps sp) (hr : Room k X.A) (hg : Gl X x) (hm : X.mg x = some (.ref f)) (hk : PySem.W.keepIn X.K (.ref f) = true) (hb : Binds X.K fd ps ds) (hd : Vals dvs ds) (hx : Passes CX X E)
    (ha : PA X (e :: es) t) (hdb : (x == ("__debug__" : Str)) = false := by decide) (he : starEach (e :: es) X.env = (false, eval e X.env) :: starEach es X.env := by rfl) (hpl : (backTo pos (starEach es X.env)).any (·.1) = false := by rfl) :
    PE X (.Call (.Name x p) (e :: es) [] pos) (tCall sp dvs E t) := by
  intro pins s σ H Q I h
  refine wpAny_Call_Name_kw (ld_glob I hg hm ?_ hdb)
  refine PySem.W.callWith_K (h₀ := X.base) I.ok.mod.kin hk (thn (ha pos pins s σ H _ I h) fun us s1 ⟨vs, H1, I1, r, q⟩ => ⟨I1.kIn, ?_⟩) he hpl
  exact run_fn F hr hb hd hx I1 r q
/-- what a class must have to be made -/
structure Mk (K : PySem.W.Frag) (C f : Addr) : Prop where
  makes : PySem.W.makesIn K C = true
  init : PySem.W.findIn K (.ref C) "__init__" = some (some (.ref f))
  fn : PySem.W.isFn K (.ref f) = true
  kp : PySem.W.keepIn K (.ref C) = true

end

/-! ### keywords -/
section
variable {X : Cx} {CX : CXT} {k : Nat} {f C : Addr} {fd : FuncData} {ps ks : List Str} {sp : Sp} {E : XK} {x m : Str} {p pos apos kpos : Pos} {e o : Expr} {es : List Expr} {kws : List Keyword} {te ta : TE} {t tk : TA} {nm : Option Str}
/-- how a call with keywords binds: g puts the positional values us and the keywords' values ws (names ks) in the parameters' order, defaults among them -/
structure KBinds (K : PySem.W.Frag) (fd : FuncData) (ps ks : List Str) (g : List Value → List Value → List Value) (gV : List V → List V → List V) : Prop where
  to : ∀ (s : Shared) (us ws : List Value), K.In s.heap → (g us ws).length = ps.length → BindsTo s fd ⟨us, ks.zip ws⟩ (ps.zip (g us ws))
  rel : ∀ {vs : List V} {us : List Value} {zs : List V} {ws : List Value}, Vals vs us → Vals zs ws → Vals (gV vs zs) (g us ws)
variable {g : List Value → List Value → List Value} {gV : List V → List V → List V}
end

/-! ### a def's body keeps its promise -/
/-- names: the parameters first -/
structure FnScope (N P : List Str) (sc : Scope) : Prop where
  kind : sc.kind = .function
  co : sc.isCoroutine = false
  gen : sc.isGenerator = false
  nd : N.Nodup
  pre : N.take P.length = P
  par : ∀ x ∈ P, sc.names.lookup x = some .local ∨ sc.names.lookup x = some .cell
  nofree : ∀ y ∈ sc.names, y.2 ≠ .free

theorem bindL_out {kindOf : Str → Option NameKind} {x : Str} : ∀ {binds : List (Str × Value)} {m : Str → Option Value}, (∀ v, (x, v) ∉ binds) → bindL kindOf binds m x = m x
  | [], _, _ => rfl
  | (n, v) :: r, m, h => by
    unfold bindL
    rw [bindL_out fun w hw => h w (List.mem_cons_of_mem _ hw)]
    split
    · have : x ≠ n := by rintro rfl; exact h v List.mem_cons_self
      simp [this]
    · rfl
theorem bindC_out {kindOf : Str → Option NameKind} {x : Str} : ∀ {binds : List (Str × Value)} {m : Str → Option Value}, (∀ v, (x, v) ∉ binds) → bindC kindOf binds m x = m x
  | [], _, _ => rfl
  | (n, v) :: r, m, h => by
    unfold bindC
    rw [bindC_out fun w hw => h w (List.mem_cons_of_mem _ hw)]
    split
    · rfl
    · have : x ≠ n := by rintro rfl; exact h v List.mem_cons_self
      simp [this]
theorem bindL_get {kindOf : Str → Option NameKind} {x : Str} {v : Value} : ∀ {P : List Str} {vs : List Value} {i : Nat} {m : Str → Option Value}, P.Nodup → P[i]? = some x → vs[i]? = some v → kindOf x = some .local →
    bindL kindOf (P.zip vs) m x = some v
  | [], _, _, _, _, h, _, _ => by simp at h
  | _ :: _, [], _, _, _, _, h, _ => by simp at h
  | p :: P, w :: vs, 0, m, nd, h1, h2, hk => by
    simp at h1 h2; subst h1; subst h2
    show bindL kindOf ((p, w) :: P.zip vs) m p = _
    unfold bindL
    rw [bindL_out fun v hv => (List.nodup_cons.mp nd).1 (List.of_mem_zip hv).1, if_pos hk]
    simp
  | p :: P, w :: vs, i + 1, m, nd, h1, h2, hk => by
    show bindL kindOf ((p, w) :: P.zip vs) m x = _
    unfold bindL
    exact bindL_get (i := i) (List.nodup_cons.mp nd).2 (by simpa using h1) (by simpa using h2) hk
theorem bindC_get {kindOf : Str → Option NameKind} {x : Str} {v : Value} : ∀ {P : List Str} {vs : List Value} {i : Nat} {m : Str → Option Value}, P.Nodup → P[i]? = some x → vs[i]? = some v → kindOf x ≠ some .local →
    bindC kindOf (P.zip vs) m x = some v
  | [], _, _, _, _, h, _, _ => by simp at h
  | _ :: _, [], _, _, _, _, h, _ => by simp at h
  | p :: P, w :: vs, 0, m, nd, h1, h2, hk => by
    simp at h1 h2; subst h1; subst h2
    show bindC kindOf ((p, w) :: P.zip vs) m p = _
    unfold bindC
    rw [bindC_out fun v hv => (List.nodup_cons.mp nd).1 (List.of_mem_zip hv).1, if_neg hk]
    simp
  | p :: P, w :: vs, i + 1, m, nd, h1, h2, hk => by
    show bindC kindOf ((p, w) :: P.zip vs) m x = _
    unfold bindC
    exact bindC_get (i := i) (List.nodup_cons.mp nd).2 (by simpa using h1) (by simpa using h2) hk

/-- the names' values at the entry -/
def start (N : List Str) (vs : List V) : St := vs.map some ++ List.replicate (N.length - vs.length) none

/-- the context of a def's body, at its entry; an exception leaves the frame, then lies as CX says -/
def cxOf (CX : CXT) (P : Program) (w : World) (K : PySem.W.Frag) (mg : Str → Option Value) (base : Heap) (N : List Str) (qual : Str) (scope : Scope) (f : Addr) (cd : Value) (A : Around) (outer : List Env) (s : Shared) (H : Hp) (E : XK) : Cx where
  prog := P
  w := w
  K := K
  mg := mg
  base := base
  A := A.deeper (envOfC qual scope s.heap.objs.size f cd)
  N := N
  s₀ := s
  H₀ := H
  env := envOfC qual scope s.heap.objs.size f cd
  outer := outer
  stack := envOfC qual scope s.heap.objs.size f cd :: outer
  ex := []
  calm := true
  fn := fun _ => true
  pn := []
  xe := fun e s' => wpAny (model P w) (A.deeper (envOfC qual scope s.heap.objs.size f cd)) (leaving (envOfC qual scope s.heap.objs.size f cd) e) (fun _ s'' => CX outer H s E e s'') (fun e' s'' => CX outer H s E e' s'') s'

theorem cell_has {sc : Scope} {n : Nat} {x : Str} (h : sc.names.lookup x = some .cell) : ∃ c, (cellsFrom n sc.names []).lookup x = some c := by
  have q := PySem.W.cellsFrom_some sc.names n [] (.inl h)
  exact Option.isSome_iff_exists.mp q

theorem inv_start {CX : CXT} {P : Program} {w : World} {K : PySem.W.Frag} {mg : Str → Option Value} {base : Heap} {N ps : List Str} {qual : Str} {scope : Scope} {f : Addr} {cd : Value} {A : Around} {outer : List Env} {s s1 : Shared} {H : Hp} {E : XK} {us : List Value} {vs : List V}
    (S : FnScope N ps scope) (hd : A.handled = none) (e0 : Env0 P w K mg base A outer s H) (hl : vs.length = ps.length) (r : Vals vs us)
    (x : InCallC s s.heap.objs.size (bindL (envOfC qual scope s.heap.objs.size f cd).kindOf (ps.zip us) fun _ => none) (cellsFrom (s.heap.objs.size + 1) scope.names []) (bindC (envOfC qual scope s.heap.objs.size f cd).kindOf (ps.zip us) fun _ => none) s1) :
    Inv (cxOf CX P w K mg base N qual scope f cd A outer s H E) [] (start N vs) H s1 := by
  have hpl : ps.length ≤ N.length := by have := congrArg List.length S.pre; rw [List.length_take] at this; omega
  obtain ⟨h1, tk, rfl, hk⟩ := x.done
  have noA : ∀ b : Addr, b ∉ (cxOf CX P w K mg base N qual scope f cd A outer s H E).ex := fun b z => absurd (show b ∈ ([] : List Addr) from z) (by simp)
  refine ⟨⟨e0.mod, S.kind, rfl, rfl, Nat.le_refl _, fun y z c h1 h2 => ?_, fun y hy => ?_, fun y c _ h => ?_, fun _ => hd, Around.frames_deeper e0.frames, .inr ⟨rfl, rfl⟩, fun b z => absurd z (noA b), e0.bs, e0.bsz, fun b _ _ => noA b, fun b z => absurd z (noA b), e0.funs, e0.frf⟩,
    rfl, e0.bare, Un.kept hk, ⟨_, x.toInCall.ns, fun i y v h1 h2 h3 => ?_⟩, fun y c h => ⟨_, x.cell y c h⟩, e0.hok.fresh (Nat.le_refl _), fun y c h => ?_, fun p hp => absurd (show p ∈ ([] : List (Addr × Obj)) from hp) (by simp), e0.hok.kept hk, ?_⟩
  · exact name_of_addr x.apart (PySem.mem_of_lookup h1) (PySem.mem_of_lookup h2)
  · have hy : scope.names.lookup y = some .cell ∨ scope.names.lookup y = some .free := hy
    rcases hy with hy | hy
    · exact cell_has hy
    · exact absurd rfl (S.nofree _ (PySem.mem_of_lookup hy))
  · exact Nat.le_of_lt (x.above y c (PySem.mem_of_lookup h))
  · have hi : i < vs.length := by
      unfold start at h2
      by_cases hi : i < vs.length
      · exact hi
      · rw [List.getElem?_append_right (by simpa using hi)] at h2
        rw [List.getElem?_replicate] at h2
        split at h2 <;> cases h2
    have ha : vs[i]? = some v := by
      unfold start at h2
      rw [List.getElem?_append_left (by simpa using hi), List.getElem?_map] at h2
      cases e : vs[i]? with
      | none => rw [e] at h2; cases h2
      | some a => rw [e] at h2; cases h2; rfl
    obtain ⟨u, hu, rv⟩ := r.get ha
    have hp : ps[i]? = some y := by
      rw [← S.pre, List.getElem?_take_of_lt (by omega)]; exact h1
    have ndP : ps.Nodup := by rw [← S.pre]; exact S.nd.sublist (List.take_sublist _ _)
    refine ⟨u, rv, ?_⟩
    rcases S.par y (List.mem_of_getElem? hp) with k | k
    · exact .inl ⟨k, bindL_get ndP hp hu k⟩
    · obtain ⟨c, e⟩ := cell_has (n := s.heap.objs.size + 1) k
      refine .inr ⟨.inl k, c, e, ?_⟩
      have q := x.cell y c e
      rw [bindC_get ndP hp hu (by show scope.names.lookup y ≠ _; rw [k]; decide)] at q
      exact q
  · exact e0.hok.fresh (Nat.le_of_lt (x.above y c (PySem.mem_of_lookup h)))
  · unfold start
    show _ = N.length
    rw [List.length_append, List.length_map, List.length_replicate]
    omega

/-- THE RULE: a def (or a method) of the text, by its body. The body's reading t is chosen for each entry; it is run at the parameters' values -/
theorem fn_of {CX : CXT} {P : Program} {w : World} {K : PySem.W.Frag} {mg : Str → Option Value} {base : Heap} {k : Nat} {f : Addr} {name qual : Str} {params : Arguments} {body : List Stmt} {scope : Scope} {dV kV doc pm cdv ct oc : Value} {an od : Option Addr}
    {osl : Array (Option Value)} {N ps : List Str} {sp : Sp} (lk : K.lookup f = some ⟨oc, od, .func (PySem.W.fnOf name qual params body scope dV kV doc pm an cdv ct), osl⟩) (hcd : PySem.W.codeIn K cdv qual = true) (S : FnScope N ps scope)
    (len : ∀ vs H Q E, sp vs H Q E → vs.length = ps.length)
    (hbody : ∀ (A : Around) (outer : List Env) (s : Shared) (H : Hp) (vs : List V) (Q : VK) (E : XK), Room k (A.deeper (envOfC qual scope s.heap.objs.size f cdv)) → sp vs H Q E →
      ∃ t, PSs (cxOf CX P w K mg base N qual scope f cdv A outer s H E) body t ∧ t { nx := fun _ H' => Q .non H', rt := Q } (start N vs) H) :
    FnOk P w K mg base CX (k + 1) f (PySem.W.fnOf name qual params body scope dV kV doc pm an cdv ct) ps sp := by
  refine ⟨len, fun A outer s H args us vs Q E hr e0 hb r hsp => ?_⟩
  have hl := len _ _ _ _ hsp
  have KX : K.In s.heap := e0.mod.kin.keeps fun b o e => (e0.bs b o e).1
  have lim : s.heap.NoLimit := e0.mod.nolimit.keeps fun b o e => (e0.bs b o e).1
  have hkind : ∀ y ∈ ps.zip us, scope.names.lookup y.1 = some .local ∨ (scope.names.lookup y.1 = some .cell ∧ ((cellsFrom (s.heap.objs.size + 1) scope.names []).lookup y.1).isSome = true) := fun ⟨n, v⟩ hy => by
    rcases S.par n (List.of_mem_zip hy).1 with q | q
    · exact .inl q
    · exact .inr ⟨q, PySem.W.cellsFrom_some _ _ _ (.inl q)⟩
  refine codeAny_call_function hr.depth (KX _ _ lk) rfl S.co S.gen rfl (PySem.W.codeRec_of KX hcd) (hb _ _ _ _ ?_)
  refine wpAny_newFunctionEnv_cells S.kind hkind fun env he s1 x => ?_
  subst he
  refine ⟨lim.keeps x.toInCall.keep, codeAny_func ?_⟩
  obtain ⟨t, ht, hq⟩ := hbody A outer s H vs Q E (hr.deeper _) hsp
  have I : Inv (cxOf CX P w K mg base N qual scope f cdv A outer s H E) [] (start N vs) H s1 := inv_start S hr.hd e0 hl r x
  refine wpAny_mono (ht [] s1 (start N vs) H _ I hq) (fun fl s' hs => ?_) fun e s' hs => hs
  have fin : ∀ {σ' : St} {H' : Hp} {v : V} {u : Value}, Inv (cxOf CX P w K mg base N qual scope f cdv A outer s H E) [] σ' H' s' → RelV v u → Q v H' → CE outer P w H s Q u s' :=
    fun {σ' H' v u} J rv q => ⟨v, H', J.os, J.bare, J.base, J.hok, rv, q⟩
  cases fl with
  | ret u =>
    obtain ⟨v, σ', H', J, rv, q⟩ := hs
    exact fin J rv q
  | next =>
    obtain ⟨σ', H', J, q⟩ := hs
    exact fin (v := V.non) (u := Value.none) J rfl q
  | brk =>
    obtain ⟨_, _, _, q⟩ := hs
    exact False.elim q
  | cont =>
    obtain ⟨_, _, _, q⟩ := hs
    exact False.elim q
end L2

namespace L2
open PySem PySem.Spec PyProof.Rows
section
variable {X : Cx} {x : Str} {p pos : Pos} {e : Expr} {es : List Expr} {t : TA} {id T : String} {r : List V → Hp → VK → Prop}

def tCB (r : List V → Hp → VK → Prop) (t : TA) : TE := fun σ H Q => t σ H fun vs H1 => r vs H1 Q
/-- f(e, ..), f a built-in function -/
theorem pe_callB (hc : CallR X (.builtin id) r) (hg : Gl X x) (hm : X.mg x = none) (hv : bootBuiltins x = some (.builtin id)) (ha : PA X (e :: es) t) (hn : x ≠ "__name__" := by decide) (hdb : (x == ("__debug__" : Str)) = false := by decide)
    (he : starEach (e :: es) X.env = (false, eval e X.env) :: starEach es X.env := by rfl) (hpl : (backTo pos (starEach es X.env)).any (·.1) = false := by rfl) : PE X (.Call (.Name x p) (e :: es) [] pos) (tCB r t) := by
  intro pins s σ H Q I h
  refine wpAny_Call_Name_kw (ld_blt I hg hm hv ?_ hn hdb)
  exact PyProof.Rows.callWith_builtin1 (thn (ha pos pins s σ H _ I h) fun us s1 ⟨vs, H1, I1, r1, q1⟩ => hc pins s1 σ H1 vs us Q I1 r1 q1) he hpl
/-- T(e, ..), T a built-in type -/
theorem pe_callTy (hc : CallR X (.type T) r) (hg : Gl X x) (hm : X.mg x = none) (hv : bootBuiltins x = some (.type T)) (ha : PA X (e :: es) t) (hn : x ≠ "__name__" := by decide) (hdb : (x == ("__debug__" : Str)) = false := by decide)
    (he : starEach (e :: es) X.env = (false, eval e X.env) :: starEach es X.env := by rfl) (hpl : (backTo pos (starEach es X.env)).any (·.1) = false := by rfl) : PE X (.Call (.Name x p) (e :: es) [] pos) (tCB r t) := by
  intro pins s σ H Q I h
  refine wpAny_Call_Name_kw (ld_blt I hg hm hv ?_ hn hdb)
  exact PyProof.Rows.callWith_type1 (thn (ha pos pins s σ H _ I h) fun us s1 ⟨vs, H1, I1, r1, q1⟩ => hc pins s1 σ H1 vs us Q I1 r1 q1) he hpl
end
end L2

namespace HT
open PySem PyProof.Rows

section
open PySem.SeqAt
open PySem.AutoSeq1 (wpAny_loadPart')
open PySem.MeetsSeq PySem.MeetsSeq2 PySem.MeetsSeq3

end

section
variable {prog : Program} {w : World} {A : Around} {E : Value → Shared → Prop} {s : Shared}

/-! ### t[a:b], not the whole -/
/-- a slice's bound as a place among n (d where it is left out) -/
def sIx (n d : Nat) : Option Int → Nat
  | none => d
  | some v => if v < 0 then (v + (n : Int)).toNat else min v.toNat n
theorem sIx_none (n d : Nat) : sIx n d none = d := rfl
theorem sIx_nat (n d k : Nat) : sIx n d (some (k : Int)) = min k n := by
  show (if (k : Int) < 0 then ((k : Int) + (n : Int)).toNat else min (k : Int).toNat n) = min k n
  rw [if_neg (by omega), Int.toNat_natCast]
theorem sIx_le (n d : Nat) (hd : d ≤ n) (o : Option Int) : sIx n d o ≤ n := by
  cases o with
  | none => exact hd
  | some v =>
    show (if v < 0 then (v + (n : Int)).toNat else min v.toNat n) ≤ n
    by_cases hv : v < 0
    · rw [if_pos hv]; omega
    · rw [if_neg hv]; exact Nat.min_le_right _ _
end
end HT

namespace L2
open PySem PySem.Spec PyProof.Rows

/-! ### the parts of a slice -/
abbrev TO := St → Hp → (Option Int → Hp → Prop) → Prop
/-- a slice's part (left out, or an int) -/
def PO (X : Cx) (e : Option Expr) (t : TO) : Prop :=
  ∀ (pins : List (Addr × Obj)) (s : Shared) (σ : St) (H : Hp) (Q : Option Int → Hp → Prop), Inv X pins σ H s → t σ H Q →
    wpAny (model X.prog X.w) X.A (evalPart e X.env) (fun u s' => ∃ o H', Inv X pins σ H' s' ∧ IsPart u o ∧ Q o H') X.xe s
def tNoPart : TO := fun _ H Q => Q none H
def tPart (t : TE) : TO := fun σ H Q => t σ H fun x H1 => ∃ i, x = .int i ∧ Q (some i) H1

section
variable {X : Cx} {e : Expr} {te : TE} {lo hi : Option Expr} {tl th : TO} {pos p2 : Pos}

theorem po_none : PO X none tNoPart := by
  intro pins s σ H Q I h
  rw [evalPart_none]
  exact wpAny_pure ⟨none, H, I, .none, h⟩
theorem po_some (h : PE X e te) : PO X (some e) (tPart te) := by
  intro pins s σ H Q I hw
  rw [evalPart_some]
  refine thn (h pins s σ H _ I hw) fun u s1 ⟨x, H1, I1, r1, q1⟩ => ?_
  obtain ⟨i, rfl, q⟩ := q1
  obtain ⟨t, rfl⟩ := r1
  exact ⟨some i, H1, I1, .int i t, q⟩

/-- what a slice of a value is, by values: the slice object stands at sl -/
def SlR (X : Cx) (r : V → Option Int → Option Int → Hp → VK → Prop) : Prop :=
  ∀ (pins : List (Addr × Obj)) (s : Shared) (σ : St) (H : Hp) (x : V) (v vl vu : Value) (lo hi : Option Int) (sl : Addr) (Q : VK), Inv X pins σ H s → RelV x v → s.heap.IsSliceOf sl vl vu .none → IsPart vl lo → IsPart vu hi → r x lo hi H Q →
    ∃ T id, typeLookup (.type T) "__getitem__" = pure (some (.builtin id)) ∧ s.TypeIs v T ∧ wpAny (model X.prog X.w) X.A (getItem v (.ref sl)) (EP X pins σ Q) X.xe s
theorem SlR.or {r r' : V → Option Int → Option Int → Hp → VK → Prop} (h : SlR X r) (h' : SlR X r') : SlR X (fun x lo hi H Q => r x lo hi H Q ∨ r' x lo hi H Q) := by
  intro pins s σ H x v vl vu lo hi sl Q I rx hs pl pu q
  rcases q with q | q
  · exact h pins s σ H x v vl vu lo hi sl Q I rx hs pl pu q
  · exact h' pins s σ H x v vl vu lo hi sl Q I rx hs pl pu q
def tSl (r : V → Option Int → Option Int → Hp → VK → Prop) (te : TE) (tl th : TO) : TE := fun σ H Q => te σ H fun x H1 => tl σ H1 fun l H2 => th σ H2 fun u H3 => r x l u H3 Q
/-- a[lo:hi], any a -/
theorem pe_slice {r : V → Option Int → Option Int → Hp → VK → Prop} (hr : SlR X r) (he : PE X e te) (hl : PO X lo tl) (hu : PO X hi th) : PE X (.Subscript e (.Slice lo hi none p2) pos) (tSl r te tl th) := by
  intro pins s σ H Q I h
  refine Subscript_ (thn (he pins s σ H _ I h) fun v s1 ⟨x, H1, I1, r1, q1⟩ => ?_)
  refine wpAny_Slice (thn (hl pins s1 σ H1 _ I1 q1) fun vl s2 ⟨l, H2, I2, pl, q2⟩ => thn (hu pins s2 σ H2 _ I2 q2) fun vu s3 ⟨u, H3, I3, pu, q3⟩ => ?_)
  rw [evalPart_none]
  refine wpAny_pure ?_
  have I4 : Inv X pins σ H3 { s3 with heap := s3.heap.push { cls := .type "slice", data := .fields #[vl, vu, .none] } } := I3.kept (t' := s3.toks) fun b ob q => Heap.get?_push_of_some _ q
  obtain ⟨T, id, hT, ht, hg⟩ := hr pins { s3 with heap := s3.heap.push { cls := .type "slice", data := .fields #[vl, vu, .none] } } σ H3 x v vl vu l u s3.heap.objs.size Q I4 r1 (Heap.IsSliceOf.new ..) pl pu q3
  show wpAny (model X.prog X.w) X.A (subscriptTail e (.Slice lo hi none p2) v (.ref s3.heap.objs.size)) (EP X pins σ Q) X.xe { s3 with heap := s3.heap.push { cls := .type "slice", data := .fields #[vl, vu, .none] } }
  exact tail_any (ops := [.ref s3.heap.objs.size, v]) ht hT hg (by with_unfolding_all rfl)

/-! ### t < u, t + u -/
end
end L2

namespace L2
open PySem PySem.Spec PyProof.Rows

/-! ### places -/
/-- the place that an index of any sign means -/
def ixN (n : Nat) (i : Int) : Option Nat := if 0 ≤ i then (if i < n then some i.toNat else none) else if -(n : Int) ≤ i then some (i + n).toNat else none
def atI {α : Type} (xs : List α) (i : Int) : Option α := (ixN xs.length i).bind fun j => xs[j]?
theorem ixN_seq {n : Nat} {i : Int} {j : Nat} (h : ixN n i = some j) : seqIndex? i n = some j ∧ j < n ∧ -(n : Int) ≤ i ∧ i < n := by
  unfold ixN at h
  by_cases h0 : 0 ≤ i
  · rw [if_pos h0] at h
    by_cases h1 : i < n
    · rw [if_pos h1] at h
      have e : i.toNat = j := Option.some.inj h
      exact ⟨by rw [seqIndex_of h0 h1, e], by omega, by omega, h1⟩
    · rw [if_neg h1] at h; cases h
  · rw [if_neg h0] at h
    by_cases h1 : -(n : Int) ≤ i
    · rw [if_pos h1] at h
      have e : (i + n).toNat = j := Option.some.inj h
      exact ⟨by rw [seqIndex_neg (by omega) h1, e], by omega, h1, by omega⟩
    · rw [if_neg h1] at h; cases h
theorem atI_get {α : Type} {xs : List α} {i : Int} {v : α} (h : atI xs i = some v) : ∃ j, seqIndex? i xs.length = some j ∧ xs[j]? = some v ∧ j < xs.length ∧ -(xs.length : Int) ≤ i ∧ i < xs.length := by
  unfold atI at h
  cases e : ixN xs.length i with
  | none => rw [e] at h; cases h
  | some j =>
    rw [e] at h
    obtain ⟨h1, h2, h3, h4⟩ := ixN_seq e
    exact ⟨j, h1, h, h2, h3, h4⟩
theorem atI_nat {α : Type} {xs : List α} {j : Nat} {v : α} (h : xs[j]? = some v) : atI xs (j : Int) = some v := by
  have hj : j < xs.length := (List.getElem?_eq_some_iff.mp h).1
  have e : ixN xs.length (j : Int) = some j := by
    unfold ixN
    rw [if_pos (by omega), if_pos (by omega)]; simp
  unfold atI; rw [e]; exact h
/-! ### what may be subscripted -/
/-- what stands as an index of a plain subscript -/
def PlainIx (b : Expr) : Prop := ∀ o i, subscripted b false o i = operate [o, i] (getItem o i)
/-- a subscript by values -/
def IxR (X : Cx) (r : R2) : Prop :=
  ∀ (value slice : Expr) (pins : List (Addr × Obj)) (s : Shared) (σ : St) (H : Hp) (x y : V) (v u : Value) (Q : VK), Inv X pins σ H s → RelV x v → RelV y u → r x y H Q →
    subscripted slice false v u = operate [v, u] (getItem v u) → wpAny (model X.prog X.w) X.A (subscriptTail value slice v u) (EP X pins σ Q) X.xe s
/-- a call of a builtin's method by values: the receiver, the arguments -/
def MtR (X : Cx) (id : String) (r : V → List V → Hp → VK → Prop) : Prop :=
  ∀ (pins : List (Addr × Obj)) (s : Shared) (σ : St) (H : Hp) (x : V) (xs : List V) (v : Value) (us : List Value) (Q : VK), Inv X pins σ H s → RelV x v → Vals xs us → r x xs H Q →
    wpAny (model X.prog X.w) X.A (call (.builtin id) (v :: us)) (EP X pins σ Q) X.xe s
section
variable {X : Cx} {a b : Expr} {ta tb : TE} {pos : Pos}
theorem IxR.or {r r' : R2} (h : IxR X r) (h' : IxR X r') : IxR X (fun x y H Q => r x y H Q ∨ r' x y H Q) := by
  intro value slice pins s σ H x y v u Q I rx ry q hs
  rcases q with q | q
  · exact h value slice pins s σ H x y v u Q I rx ry q hs
  · exact h' value slice pins s σ H x y v u Q I rx ry q hs
theorem MtR.or {id : String} {r r' : V → List V → Hp → VK → Prop} (h : MtR X id r) (h' : MtR X id r') : MtR X id (fun x xs H Q => r x xs H Q ∨ r' x xs H Q) := by
  intro pins s σ H x xs v us Q I rx rs q
  rcases q with q | q
  · exact h pins s σ H x xs v us Q I rx rs q
  · exact h' pins s σ H x xs v us Q I rx rs q
/-- a[b] -/
theorem pe_ix {r : R2} (hr : IxR X r) (ha : PE X a ta) (hb : PE X b tb) (hs : PlainIx b) : PE X (.Subscript a b pos) (tOp r ta tb) := by
  intro pins s σ H Q I h
  exact Subscript_ (binT ha hb I h fun v u s2 x y H2 I2 rx ry q => hr a b pins s2 σ H2 x y v u Q I2 rx ry q (hs _ _))

def rIxL (K : PySem.W.Frag) : R2 := fun x y H Q => ∃ p xs i v, x = .ref p ∧ y = .int i ∧ SqL K H p xs ∧ atI xs i = some v ∧ Q v H
def rIxS : R2 := fun x y H Q => ∃ z i c, x = .str z ∧ y = .int i ∧ z.length ≤ sizeLine ∧ atI z.cps.toList i = some c ∧ Q (.str ⟨#[c]⟩) H
theorem ix_list : IxR X (rIxL X.K) := by
  intro value slice pins s σ H x y v u Q I rx ry h hs
  obtain ⟨p, xs, i, z, rfl, rfl, hq, he, q⟩ := h
  cases rx
  obtain ⟨t, rfl⟩ := ry
  obtain ⟨its, r, pl, hz⟩ := I.list hq
  obtain ⟨j, h1, h2, h3, h4, h5⟩ := atI_get he
  obtain ⟨w, ew, rw'⟩ := r.get h2
  have hl := r.length
  have hn := line63
  have fin : EP X pins σ Q w s := ⟨z, H, I, rw', q⟩
  by_cases h0 : 0 ≤ i
  · have hj : i.toNat = j := by
      rw [seqIndex_of h0 h5] at h1
      exact Option.some.inj h1
    exact item_listR pl.isList h0 (by omega) (by rw [hj]; simpa using ew) fin hs
  · have hj : (i + (its.toArray.size : Int)).toNat = j := by
      rw [seqIndex_neg (by omega) h4] at h1
      rw [List.size_toArray, ← hl]
      exact Option.some.inj h1
    exact subscriptTail_builtinR (x := w) pl.isList.typeIs slot_list_getitem.lookup
      (wpAny_getItem_list_neg (Q := fun r s' => r = w ∧ EP X pins σ Q r s') pl.isList (by omega) (by rw [List.size_toArray] <;> omega) (by omega) (by rw [hj]; simpa using ew) ⟨rfl, fin⟩) hs
theorem ix_str : IxR X rIxS := by
  intro value slice pins s σ H x y v u Q I rx ry h hs
  obtain ⟨z, i, c, rfl, rfl, hz, he, q⟩ := h
  obtain ⟨t, rfl⟩ := rx
  obtain ⟨t', rfl⟩ := ry
  obtain ⟨j, h1, h2, h3, h4, h5⟩ := atI_get he
  have hl : z.cps.toList.length = z.length := by simp [Str.length]
  rw [hl] at h1 h4 h5
  have hn := line63
  exact tail_any (typeIs_str s z t) slot_str_getitem.lookup (getItem_str (c := c) (by
    have e1 : decide (i < -(2 ^ 63 : Int)) = false := decide_eq_false (by omega)
    have e2 : decide (i ≥ 2 ^ 63) = false := decide_eq_false (by omega)
    rw [e1, e2, Bool.or_false]) (by rw [h1]; simpa using h2) ⟨.str ⟨#[c]⟩, H, I.tok _, ⟨_, rfl⟩, q⟩) hs
/-! ### xs[i] = v, any sign -/
theorem Inv.lst {pins : List (Addr × Obj)} {σ : St} {H : Hp} {s : Shared} {p : Addr} {xs : List V} (I : Inv X pins σ H s) (h : H p = some (.lst xs)) :
    ∃ (its : List Value) (n : Nat), Vals xs its ∧ s.heap.get? p = some { cls := .type "list", data := .seq its.toArray n } ∧ xs.length ≤ sizeLine := by
  obtain ⟨z, its, n, r, e⟩ := I.hok p _ h
  exact ⟨its, n, r, e, z⟩
/-! ### slices -/
/-! ### in, not in: flat items -/
def flatV : V → Bool
  | .non => true
  | .bl _ => true
  | .int _ => true
  | .str _ => true
  | _ => false
/-- == of flat values -/
def eqV : V → V → Bool
  | .non, .non => true
  | .bl a, .bl b => a == b
  | .bl a, .int b => (if a then 1 else 0) == b
  | .int a, .bl b => a == (if b then 1 else 0)
  | .int a, .int b => a == b
  | .str a, .str b => a == b
  | _, _ => false
theorem eqAt_V {A : Around} {s : Shared} {y x : V} {u v : Value} (ry : RelV y u) (rx : RelV x v) (fy : flatV y = true) (fx : flatV x = true) : SeqAt.EqAt A s u v (eqV y x) := by
  cases y with
  | non =>
    cases ry
    cases x with
    | non => cases rx; exact SeqAt.EqAt.same _
    | bl b => cases rx; exact SeqAt.EqAt.none_bool b
    | int b => obtain ⟨t, rfl⟩ := rx; exact SeqAt.EqAt.none_int b t
    | str b => obtain ⟨t, rfl⟩ := rx; exact SeqAt.EqAt.none_str b t
    | _ => exact absurd (show false = true from fx) Bool.false_ne_true
  | bl a =>
    cases ry
    cases x with
    | non => cases rx; exact SeqAt.EqAt.bool_none a
    | bl b => cases rx; exact SeqAt.EqAt.bool_bool a b
    | int b => obtain ⟨t, rfl⟩ := rx; exact SeqAt.EqAt.bool_int a b t
    | str b => obtain ⟨t, rfl⟩ := rx; exact SeqAt.EqAt.bool_str a b t
    | _ => exact absurd (show false = true from fx) Bool.false_ne_true
  | int a =>
    obtain ⟨t', rfl⟩ := ry
    cases x with
    | non => cases rx; exact SeqAt.EqAt.int_none a t'
    | bl b => cases rx; exact SeqAt.EqAt.int_bool a t' b
    | int b => obtain ⟨t, rfl⟩ := rx; exact SeqAt.EqAt.int_int a t' b t
    | str b => obtain ⟨t, rfl⟩ := rx; exact SeqAt.EqAt.int_str a t' b t
    | _ => exact absurd (show false = true from fx) Bool.false_ne_true
  | str a =>
    obtain ⟨t', rfl⟩ := ry
    cases x with
    | non => cases rx; exact SeqAt.EqAt.str_none a t'
    | bl b => cases rx; exact SeqAt.EqAt.str_bool a t' b
    | int b => obtain ⟨t, rfl⟩ := rx; exact SeqAt.EqAt.str_int a t' b t
    | str b => obtain ⟨t, rfl⟩ := rx; exact SeqAt.EqAt.str_str a t' b t
    | _ => exact absurd (show false = true from fx) Bool.false_ne_true
  | _ => exact absurd (show false = true from fy) Bool.false_ne_true
/-- the items' answers, read off the values (a value's own answer does not lean on its token) -/
def eqU (x : V) (u : Value) : Bool := match u with
  | .none => eqV .non x
  | .bool b => eqV (.bl b) x
  | .int i _ => eqV (.int i) x
  | .str z _ => eqV (.str z) x
  | _ => false
theorem eqU_of {x y : V} {u : Value} (r : RelV y u) (f : flatV y = true) : eqU x u = eqV y x := by
  cases y with
  | non => cases r; rfl
  | bl b => cases r; rfl
  | int i => obtain ⟨t, rfl⟩ := r; rfl
  | str z => obtain ⟨t, rfl⟩ := r; rfl
  | _ => exact absurd (show false = true from f) Bool.false_ne_true
theorem any_eqU {x : V} : ∀ {xs : List V} {us : List Value}, Vals xs us → xs.all flatV = true → us.any (eqU x) = xs.any fun y => eqV y x
  | _, _, .nil, _ => rfl
  | y :: xs, u :: us, .cons r t, f => by
    rw [List.all_cons, Bool.and_eq_true] at f
    rw [List.any_cons, List.any_cons, eqU_of r f.1, any_eqU t f.2]
theorem mem_eqAt {A : Around} {s : Shared} {x : V} {v : Value} (rx : RelV x v) (fx : flatV x = true) : ∀ {xs : List V} {us : List Value}, Vals xs us → xs.all flatV = true → ∀ u ∈ us, SeqAt.EqAt A s u v (eqU x u)
  | _, _, .nil, _ => fun u hu => by cases hu
  | y :: xs, u :: us, .cons r t, f => fun u' hu => by
    rw [List.all_cons, Bool.and_eq_true] at f
    rcases List.mem_cons.mp hu with rfl | hu
    · rw [eqU_of r f.1]; exact eqAt_V r rx f.1 fx
    · exact mem_eqAt rx fx t f.2 u' hu
def inV (x : V) (xs : List V) : Bool := xs.any fun y => eqV y x
/-- x in a list or tuple of flat items -/
def rIn (K : PySem.W.Frag) (neg : Bool) : R2 := fun x y H Q => ∃ p xs, y = .ref p ∧ (SqL K H p xs ∨ SqT K H p xs) ∧ flatV x = true ∧ xs.all flatV = true ∧ Q (.bl (if neg then !inV x xs else inV x xs)) H
theorem op_notIn_seq : OpR X (compareOp .NotIn) (rIn X.K true) := by
  intro pins s σ H x y v u Q I rx ry h
  obtain ⟨p, xs, rfl, hq, fx, fs, q⟩ := h
  cases ry
  rcases hq with hq | hq
  · obtain ⟨its, r, pl, hz⟩ := I.list hq
    refine SeqAt.notIn_listAt (eqU x) pl.isList (fun w hw => mem_eqAt rx fx r fs w (by simpa using hw)) ⟨.bl _, H, I, rfl, ?_⟩
    rw [show its.toArray.any (eqU x) = its.any (eqU x) by simp, any_eqU r fs]
    exact q
  · obtain ⟨its, r, pl, hz⟩ := I.tuple hq
    refine SeqAt.notIn_tupleAt (eqU x) pl (fun w hw => mem_eqAt rx fx r fs w (by simpa using hw)) ⟨.bl _, H, I, rfl, ?_⟩
    rw [show its.toArray.any (eqU x) = its.any (eqU x) by simp, any_eqU r fs]
    exact q
/-! ### len, list(x), tuple(x) of any list or tuple that is read -/
theorem call_len_seq : CallR X (.builtin "len") (fun xs H Q => ∃ p ys, xs = [.ref p] ∧ (SqL X.K H p ys ∨ SqT X.K H p ys) ∧ Q (.int ys.length) H) := by
  intro pins s σ H xs us Q I r h
  obtain ⟨p, ys, rfl, hq, q⟩ := h
  obtain ⟨u, rfl, rx⟩ := vals1 r
  cases rx
  have hn := line63
  rcases hq with hq | hq
  · obtain ⟨its, r', pl, hz⟩ := I.list hq
    have hlen := r'.length
    exact Calls.call_len_list pl.isList (by simp only [List.size_toArray] <;> omega) ⟨.int ys.length, H, I.tok _, ⟨s.toks + 1, by rw [List.size_toArray, hlen]⟩, q⟩
  · obtain ⟨its, r', pl, hz⟩ := I.tuple hq
    have hlen := r'.length
    exact len_tuple pl (by simp only [List.size_toArray] <;> omega) ⟨.int ys.length, H, I.tok _, ⟨s.toks + 1, by rw [List.size_toArray, hlen]⟩, q⟩
theorem call_len_str : CallR X (.builtin "len") (fun xs H Q => ∃ z, xs = [.str z] ∧ z.length ≤ sizeLine ∧ Q (.int z.length) H) := by
  intro pins s σ H xs us Q I r h
  obtain ⟨z, rfl, hz, q⟩ := h
  obtain ⟨u, rfl, t, rfl⟩ := vals1 r
  have hn := line63
  exact len_str (by omega) ⟨.int z.length, H, I.tok _, ⟨_, rfl⟩, q⟩
theorem CallR.or {f : Value} {r r' : List V → Hp → VK → Prop} (h : CallR X f r) (h' : CallR X f r') : CallR X f (fun xs H Q => r xs H Q ∨ r' xs H Q) := by
  intro pins s σ H xs us Q I rs q
  rcases q with q | q
  · exact h pins s σ H xs us Q I rs q
  · exact h' pins s σ H xs us Q I rs q
theorem call_list_of : CallR X (.type "list") (fun xs H Q => ∃ p ys, xs = [.ref p] ∧ (SqL X.K H p ys ∨ SqT X.K H p ys) ∧ ∀ l, H l = none → Q (.ref l) (upd H l (.lst ys))) := by
  intro pins s σ H xs us Q I r h
  obtain ⟨p, ys, rfl, hq, q⟩ := h
  obtain ⟨u, rfl, rx⟩ := vals1 r
  cases rx
  have fin : ∀ (its : List Value), Vals ys its → ys.length ≤ sizeLine → ∀ (h' : Heap) (c' : Nat), (∀ b o', s.heap.get? b = some o' → h'.get? b = some o') →
      h'.get? s.heap.objs.size = some { cls := .type "list", dict := none, data := .seq its.toArray c', slots := #[] } → EP X pins σ Q (.ref s.heap.objs.size) { s with heap := h' } := fun its r' hz h' c' kp e =>
    ⟨.ref s.heap.objs.size, _, I.laid (t' := s.toks) kp (Nat.le_refl _) (show ObjOk X.prog X.w _ h' _ (.lst ys) from ⟨hz, its, c', r', e⟩), rfl, q _ (I.hok.fresh (Nat.le_refl _))⟩
  rcases hq with hq | hq
  · obtain ⟨its, r', pl, hz⟩ := I.list hq
    have hlen := r'.length
    obtain ⟨o, ho, hc, n, hd⟩ := pl.isList
    exact call_list_seq p (.inl rfl) ho hc hd (fun h' c' kp e => fin its r' hz h' c' kp e) (by simp only [List.size_toArray] <;> omega)
  · obtain ⟨its, r', pl, hz⟩ := I.tuple hq
    have hlen := r'.length
    obtain ⟨o, ho, hc, n, hd⟩ := pl
    exact call_list_seq p (.inr rfl) ho hc hd (fun h' c' kp e => fin its r' hz h' c' kp e) (by simp only [List.size_toArray] <;> omega)
/-! ### the call of a builtin's method: o.m(..) -/
/-- the value is of that builtin type -/
def tyV (K : PySem.W.Frag) (T : String) (x : V) (H : Hp) : Prop := match x with
  | .str _ => T = "str"
  | .int _ => T = "int"
  | .ref p => (T = "list" ∧ ∃ xs, SqL K H p xs) ∨ (T = "tuple" ∧ ∃ o, K.lookup p = some o ∧ o.cls = .type "tuple" ∧ o.dict = none) ∨
      (T = "dict" ∧ ((∃ kvs, H p = some (.dK kvs)) ∨ ∃ kvs, H p = some (.dT kvs))) ∨ (T = "set" ∧ ∃ S n, H p = some (.set S n))
  | _ => False
theorem tyV_is {pins : List (Addr × Obj)} {σ : St} {H : Hp} {s : Shared} {T : String} {x : V} {v : Value} (I : Inv X pins σ H s) (r : RelV x v) (ty : tyV X.K T x H) :
    s.TypeIs v T ∧ ∀ a, v = .ref a → ∃ ob, s.heap.get? a = some ob ∧ ob.dict = none := by
  cases x with
  | str z =>
    obtain ⟨t, rfl⟩ := r
    cases (show T = "str" from ty)
    exact ⟨typeIs_str s z t, fun _ e => nomatch e⟩
  | int i =>
    obtain ⟨t, rfl⟩ := r
    cases (show T = "int" from ty)
    exact ⟨typeIs_int s i t, fun _ e => nomatch e⟩
  | ref p =>
    cases r
    rcases ty with ⟨rfl, xs, hq⟩ | ⟨rfl, o, hk, hc, hd⟩ | ⟨rfl, hk⟩ | ⟨rfl, S, n, hk⟩
    · obtain ⟨its, _, pl, _⟩ := I.list hq
      refine ⟨pl.isList.typeIs, fun a e => ?_⟩
      cases e
      obtain ⟨o, n, e, c, hd, _⟩ := pl
      exact ⟨o, e, hd⟩
    · refine ⟨⟨o, I.kIn p o hk, hc⟩, fun a e => ?_⟩
      cases e
      exact ⟨o, I.kIn _ o hk, hd⟩
    · have z : ∃ o, s.heap.get? p = some o ∧ o.ExactDict := by
        rcases hk with ⟨kvs, hk⟩ | ⟨kvs, hk⟩
        · obtain ⟨_, _, _, _, o, _, _, e, ex, _⟩ := I.hok p _ hk
          exact ⟨o, e, ex⟩
        · obtain ⟨_, _, _, _, o, _, _, e, ex, _⟩ := I.hok p _ hk
          exact ⟨o, e, ex⟩
      obtain ⟨o, e, ex⟩ := z
      refine ⟨⟨o, e, ex.1⟩, fun a e2 => ?_⟩
      cases e2
      exact ⟨o, e, ex.2.1⟩
    · obtain ⟨o, _, _, _, e, ex, _⟩ := I.hok p _ hk
      refine ⟨⟨o, e, ex.1⟩, fun a e2 => ?_⟩
      cases e2
      exact ⟨o, e, ex.2.1⟩
  | _ => exact False.elim ty
def tBM0 (K : PySem.W.Frag) (T : String) (r : V → List V → Hp → VK → Prop) (to : TE) : TE := fun σ H Q => to σ H fun x H1 => tyV K T x H1 ∧ r x [] H1 Q
def tBM (K : PySem.W.Frag) (T : String) (r : V → List V → Hp → VK → Prop) (to : TE) (t : TA) : TE := fun σ H Q => to σ H fun x H1 => tyV K T x H1 ∧ t σ H1 fun xs H2 => r x xs H2 Q
variable {o e : Expr} {es : List Expr} {to : TE} {t : TA} {name : Str} {apos cpos : Pos} {T id : String} {r : V → List V → Hp → VK → Prop}
theorem pe_bm0 (pa : PlainAttrs T) (slot : Slot T name id) (hty : typeOf (.builtin id) = pure (.type "method_descriptor")) (hm : MtR X id r) (ho : PE X o to)
    (hbase : attributeBase o name X.env (eval o X.env) = eval o X.env := by rfl) (hline : (apos.endLine == cpos.line) = true := by rfl) : PE X (.Call (.Attribute o name apos) [] [] cpos) (tBM0 X.K T r to) := by
  intro pins s σ H Q I h
  refine wpAny_Call_method0_late hbase hline (thn (ho pins s σ H _ I h) fun v s1 ⟨x, H1, I1, r1, ty, q1⟩ => ?_)
  obtain ⟨h1, h2⟩ := tyV_is I1 r1 ty
  exact ⟨T, id, pa, slot, hty, h1, h2, Calls.callWith_builtin rfl (PySem.evalArgs_none (hm pins s1 σ H1 x [] v [] Q I1 r1 .nil q1))⟩
theorem pe_bm (pa : PlainAttrs T) (slot : Slot T name id) (hty : typeOf (.builtin id) = pure (.type "method_descriptor")) (hm : MtR X id r) (ho : PE X o to) (ha : PA X (e :: es) t)
    (hbase : attributeBase o name X.env (eval o X.env) = eval o X.env := by rfl)
    (hfew : ((backTo cpos (starEach (e :: es) X.env)).all (fun x => !x.1) && (backToKw cpos (keywordEach [] X.env)).all (fun x => x.1.isSome)
      && decide ((e :: es).length + ([] : List Keyword).length + (if ([] : List Keyword).isEmpty then 0 else 1) < 30)) = true := by rfl)
    (hline : (apos.endLine == cpos.line) = true := by rfl) (hs : starEach (e :: es) X.env = (false, eval e X.env) :: starEach es X.env := by rfl) (hplain : (backTo cpos (starEach es X.env)).any (·.1) = false := by rfl) :
    PE X (.Call (.Attribute o name apos) (e :: es) [] cpos) (tBM X.K T r to t) := by
  intro pins s σ H Q I h
  refine wpAny_Call_method_late hbase hfew hline rfl (thn (ho pins s σ H _ I h) fun v s1 ⟨x, H1, I1, r1, ty, q1⟩ => ?_)
  obtain ⟨h1, h2⟩ := tyV_is I1 r1 ty
  refine ⟨T, id, pa, slot, hty, h1, h2, ?_⟩
  have hA := ha cpos pins s1 σ H1 _ I1 q1
  rw [hs] at hA ⊢
  refine Calls.callWith_builtin (by show (false || (backTo cpos (starEach es X.env)).any (·.1)) = false; rw [hplain] <;> rfl) (Calls.evalArgs_plain ?_)
  exact thn hA fun us s2 ⟨vs, H2, I2, r2, q2⟩ => hm pins s2 σ H2 x vs v us Q I2 r1 r2 q2
/- xs.append(e), list.index on a module's tuple .. are MtR facts of 06m -/
end
end L2

namespace L2
open PySem PySem.Spec PyProof.Rows

def MtM (X : Cx) (id : String) (r : V → List V → Hp → VK → Prop) : Prop :=
  ∀ (pins : List (Addr × Obj)) (s : Shared) (σ : St) (H : Hp) (x : V) (xs : List V) (v : Value) (us : List Value) (Q : VK), Inv X pins σ H s → RelV x v → Vals xs us → r x xs H Q →
    wpAny (model X.prog X.w) X.A (call (.builtin id) (v :: us)) (EP X pins σ Q) X.xe s

/-! ### lists of values -/
theorem Vals.one : ∀ {x : V} {us : List Value}, Vals [x] us → ∃ u, us = [u] ∧ RelV x u
  | _, _, .cons r .nil => ⟨_, rfl, r⟩
theorem Vals.two : ∀ {x y : V} {us : List Value}, Vals [x, y] us → ∃ u v, us = [u, v] ∧ RelV x u ∧ RelV y v
  | _, _, _, .cons r (.cons q .nil) => ⟨_, _, rfl, r, q⟩
theorem Vals.zero : ∀ {us : List Value}, Vals [] us → us = []
  | _, .nil => rfl
theorem Vals.reverse {xs : List V} {us : List Value} (h : Vals xs us) : Vals xs.reverse us.reverse := by
  induction h with
  | nil => exact .nil
  | cons r t ih => rw [List.reverse_cons, List.reverse_cons]; exact Vals.append ih (.cons r .nil)
section
variable {X : Cx} {pins : List (Addr × Obj)} {σ : St} {H : Hp} {s : Shared} {l b : Addr} {xs ys zs : List V}

/-! ### the two steps: a tracked list is rewritten, a new list is laid -/
theorem Inv.lset {its its' : List Value} {n : Nat} {f : Array Value → Array Value} {t' : Nat} (I : Inv X pins σ H s) (hH : H l = some (.lst xs))
    (e : s.heap.get? l = some { cls := .type "list", data := .seq its.toArray n }) (hf : f its.toArray = its'.toArray) (hv : Vals ys its') (hz : ys.length ≤ sizeLine) :
    Inv X pins σ (upd H l (.lst ys)) { s with heap := s.heap.update l (Obj.mapSeq f), toks := t' } := by
  have q := PySem.IsL.update e f
  rw [hf] at q
  refine I.write (x := l) (e := l) (by rw [hH]; exact trivial) (.inl rfl) (fun b' u hb hu => (Heap.get?_update_other s.heap (Obj.mapSeq f) (Ne.symm hb)).trans hu) ⟨_, q⟩ ?_
  exact ⟨hz, its', _, hv, q⟩
theorem Inv.fresh (I : Inv X pins σ H s) : H s.heap.objs.size = none := I.hok.fresh (Nat.le_refl _)
theorem Inv.lstM (I : Inv X pins σ H s) (hH : H l = some (.lst xs)) : xs.length ≤ sizeLine ∧ ∃ (its : List Value) (n : Nat), Vals xs its ∧ xs.length = its.length ∧ s.heap.get? l = some { cls := .type "list", data := .seq its.toArray n } := by
  obtain ⟨z, its, n, r, e⟩ := I.hok l _ hH
  exact ⟨z, its, n, r, r.length, e⟩

end

section
variable {X : Cx}

/-! ### methods -/
def rAppend : V → List V → Hp → VK → Prop := fun x vs H Q => ∃ l xs y, x = .ref l ∧ vs = [y] ∧ H l = some (.lst xs) ∧ xs.length < sizeLine ∧ Q .non (upd H l (.lst (xs ++ [y])))
theorem mt_append : MtM X "list.append" rAppend := by
  intro pins s σ H x vs v us Q I rx rv h
  obtain ⟨l, xs, y, rfl, rfl, hH, hz, q⟩ := h
  cases rx
  obtain ⟨u, rfl, ru⟩ := rv.one
  obtain ⟨z, its, n, r, hl, e⟩ := I.lstM hH
  refine call_meets F.slot_list_append ⟨_, e, rfl⟩ F.entry_list_append (F.args_list_append_2 _ _) (PySem.list_append l its.toArray n u (by rw [List.size_toArray]; omega)) ⟨e, ?_⟩
  refine ⟨.non, _, I.lset (its' := its ++ [u]) hH e (by simp) (r.append (.cons ru .nil)) ?_, rfl, q⟩
  rw [List.length_append, List.length_singleton]
  omega

def rClear : V → List V → Hp → VK → Prop := fun x vs H Q => ∃ l xs, x = .ref l ∧ vs = [] ∧ H l = some (.lst xs) ∧ Q .non (upd H l (.lst []))
theorem mt_clear : MtM X "list.clear" rClear := by
  intro pins s σ H x vs v us Q I rx rv h
  obtain ⟨l, xs, rfl, rfl, hH, q⟩ := h
  cases rx
  have hus := rv.zero
  subst hus
  obtain ⟨z, its, n, r, hl, e⟩ := I.lstM hH
  refine call_meets F.slot_list_clear ⟨_, e, rfl⟩ F.entry_list_clear (F.args_list_clear_1 _) (AutoSeq1.list_clear_list_0 l its.toArray n (by rw [List.size_toArray]; omega)) ⟨e, ?_⟩
  exact ⟨.non, _, I.lset (its' := []) (ys := []) hH e rfl .nil (Nat.zero_le _), rfl, q⟩

/-! ### list + list, list += list, list * int -/
/-! ### del xs[i] -/
end

/-! ### xs[a:b] = ys -/
section
variable {prog : Program} {w : World} {A : Around} {E : Value → Shared → Prop} {s : Shared}
end

section
variable {X : Cx}
end
end L2

namespace Att
open PySem PySem.W PySem.Calls PyProof.Rows

/-! ### the script -/
theorem ints_of_wellAll {P : Params} {h : Heap} : ∀ (ns : List Int) (vs : List Value), WellAll P h vs (ns.map WData.int) → IntsAre vs ns := by
  intro ns
  induction ns with
  | nil =>
    intro vs w
    rw [List.map_nil] at w
    cases w
    exact .nil
  | cons n ns ih =>
    intro vs w
    rw [List.map_cons] at w
    cases w with
    | cons a b =>
      cases a
      exact .cons _ _ (ih _ b)

theorem script_of {l : OpenLaw} {n : Nat} (hn : l.most = some n) {P : Params} {h : Heap} {args : List WData} {vals : List Value}
    (hpre : l.row.toRowW.claim.pre args = true) (hwl : WellAll P h vals args) :
    ∃ a vs ns, vals = [Value.ref a] ∧ args = [WData.list (ns.map WData.int)] ∧ h.get? a = some { cls := .type "list", data := .seq vs.toArray } ∧ IntsAre vs ns ∧ ns.length ≤ n := by
  have hsh : WShape.hasAll [] args [.list .int] = true := (pre_splitW hpre).1
  have hc : l.pre.holds [] { args := args } = true := (pre_splitW hpre).2
  obtain ⟨d, r, rfl, h1, h2⟩ := hasAllW_cons hsh
  obtain rfl := hasAllW_nil h2
  obtain ⟨xs, rfl, h3⟩ := hasW_list h1
  obtain ⟨ns, rfl⟩ := items_int h3
  have hlen : ns.length ≤ n := by
    unfold OpenLaw.pre at hc
    have h4 : (WTm.not (.lt (.lit (.int (n : Int))) (.len (.arg 0)))).holds [] { args := [.list (ns.map .int)] } = true := by
      have h4 := (holds_andW hc).1
      rw [hn] at h4
      exact h4
    have h5 := condW_of h4 (w_not (w_lt w_lit (w_len_list (w_arg rfl))))
    rw [List.length_map] at h5
    refine Nat.le_of_not_lt fun q => ?_
    have q' : (n : Int) < ((ns.length : Nat) : Int) := by omega
    first
      | (rw [decide_eq_true q'] at h5; exact absurd h5 (by decide))
      | (simp at h5; omega)
  cases hwl with
  | cons w1 w2 =>
    cases w2
    cases w1 with
    | list ho hall => exact ⟨_, _, ns, rfl, rfl, ho, ints_of_wellAll ns _ hall, hlen⟩

theorem post_true (l : OpenLaw) (args : List WData) : l.row.toRowW.claim.post args (.bool true) args = true :=
  postW_of (r := l.row.toRowW) (X := (true == true))
    (show WShape.has [] (.bool true) .bool = true by first | rfl | decide | simp [WShape.has, WShape.arms, WShape.armsAll])
    (show (WTm.eq .res (.lit (.bool true))).value [] { args := args, res := some (.bool true), after := args } = some (.bool (true == true)) from w_eq_bool (w_res rfl) w_lit) rfl

/-! ### the attachment: holds_open's last premise (the goal 'hc' behind k_head) from a wpAny of the law's body -/
/-- the same from a codeAny of the CALL (for a layer whose function contracts speak of calls) -/
theorem attach_call {l : OpenLaw} {n : Nat} {q : Program} {loose : List Str} {XP : (Str → Option Value) → Heap → Prop} {YP : World → Heap → Prop} {d : DefRec}
    (hn : l.most = some n) (hdf : d.params.defaults = [])
    (call : ∀ (w : World) (s₀ s₁ : Shared) (mg mb : Str → Option Value) (fa : Addr) (o : Obj) (pm cd doc : Value) (a : Addr) (vs : List Value) (ns : List Int),
      Ground q loose [] XP w s₀ mg mb s₁.heap → YP w s₁.heap →
      s₁.heap.get? fa = some o → o.data = .func (docDef d.name d.params d.body d.scope pm cd doc) → s₁.heap.CodeRec cd d.name → mg d.name = some (.ref fa) →
      s₁.heap.get? a = some { cls := .type "list", data := .seq vs.toArray } → IntsAre vs ns → ns.length ≤ n → s₁.gens = #[] →
      codeAny (model l.prog w) callerA (.call (.ref fa) ⟨[.ref a], []⟩) (fun r s' => r = .ok (.ret (.bool true)) ∧ OldK s₁.heap s'.heap ∧ s'.os = s₁.os ∧ AllBare s'.gens) s₁) :
    WalkO q loose XP YP l.row.toRowW d [] (fun f vs => PySem.call f vs) := by
  intro w s₀ s₁ mg mb G Y fa o pm cd doc dV kV ho hd hcd hD hmg hg args vals as hpre hlay hrd hwl hlo
  obtain rfl : dV = .none := Dflts.none hD hdf
  obtain rfl : kV = .none := Dflts.noKw hD
  obtain ⟨a, vs, ns, rfl, rfl, hobj, hints, hlen⟩ := script_of hn hpre hwl
  refine enter_call (codeAny_mono (call w s₀ s₁ mg mb fa o pm cd doc a vs ns G Y ho (fd_plain hd) hcd hmg hobj hints hlen hg) fun r s' hq => ?_)
  obtain ⟨rfl, h2, h3, h4⟩ := hq
  exact ⟨.inl ⟨.bool true, .bool true, [], rfl, fun _ => rfl, .bool true, post_true l _, fun _ => ⟨List.Pairwise.nil, fun _ hm => (nomatch hm)⟩⟩, h2, h3, h4⟩

/-! ### rules over ANY heap (no ledger) from facts about the written part K: the library's own take a ledger (News) for what they write -/
section
variable {prog : Program} {w : World} {A : Around} {E : Value → Shared → Prop} {s : Shared} {K : Frag}

/-! the whole heap as the ledger: makes every rule that writes through a ledger a rule over any heap -/
def ledger (h : Heap) (L d : Addr) : List (Addr × Obj) := (List.range h.objs.size).filterMap fun a => if a = L ∨ a = d then none else (h.get? a).map fun o => (a, o)
end
end Att

namespace L2
open PySem PySem.Spec PyProof.Rows

theorem vals_ints : ∀ {vs : List Value} {ns : List Int}, IntsAre vs ns → Vals (ns.map V.int) vs
  | _, _, .nil => .nil
  | _, _, .cons n t h => .cons ⟨t, rfl⟩ (vals_ints h)

/-- nothing is tracked but the script, known to the object (or it is an object of the module) -/
def Only (H : Hp) : Prop := ∀ b, H b = none ∨ ∃ o xs, H b = some (.frz o (.lst xs))

/-- THE HEAD: the law's promise, at the heap behind the top. F, the promise of the law's def, may use that base is part of the heap (so K.In base, base.Ns mainGlobals mg stand in Mod) -/
theorem law_call {P : Program} {w : World} {K : PySem.W.Frag} {mg mb : Str → Option Value} {CX : CXT} {k : Nat} {fa a : Addr} {fd : FuncData} {x : Str} {sp : Sp} {s₁ : Shared} {vs : List Value} {ns : List Int}
    (KX : K.In s₁.heap) (hns : s₁.heap.Ns mainGlobals mg) (hb : s₁.heap.Ns builtinsNs mb) (hbb : ∀ x : Str, x ≠ "__name__" → mb x = bootBuiltins x) (hlim : s₁.heap.NoLimit) (hg : s₁.gens = #[])
    (ha : s₁.heap.get? a = some { cls := .type "list", data := .seq vs.toArray }) (hi : IntsAre vs ns) (hl : ns.length ≤ sizeLine) (hr : Room k callerA)
    (F : ∀ base : Heap, K.In base → base.Ns mainGlobals mg → FnOk P w K mg base CX k fa fd [x] sp) (hbind : ∀ (s : Shared) (u : Value), BindsTo s fd ⟨[u], []⟩ [(x, u)])
    (hsp : ∀ H : Hp, Only H → SqL K H a (ns.map V.int) → sp [.ref a] H (fun v _ => v = .bl true) fun _ _ _ => False)
    (hCX : ∀ H e s', CX [] H s₁ (fun _ _ _ => False) e s' → False) :
    codeAny (model P w) callerA (.call (.ref fa) ⟨[.ref a], []⟩) (fun r s' => r = .ok (.ret (.bool true)) ∧ OldK s₁.heap s'.heap ∧ s'.os = s₁.os ∧ AllBare s'.gens) s₁ := by
  have rv := vals_ints hi
  have lenV := hi.length
  -- from an abstract heap in which nothing but the script may be tracked
  have core : ∀ H : Hp, Only H → SqL K H a (ns.map V.int) → HOk P w H s₁.heap → (∀ b, H b ≠ none → b = a) → (H a ≠ none → K.lookup a = none) →
      codeAny (model P w) callerA (.call (.ref fa) ⟨[.ref a], []⟩) (fun r s' => r = .ok (.ret (.bool true)) ∧ OldK s₁.heap s'.heap ∧ s'.os = s₁.os ∧ AllBare s'.gens) s₁ := by
    intro H hO hS hok hA hK
    have base_of : ∀ {b : Addr} {o : Obj}, s₁.heap.get? b = some o → H b = none → (hidT s₁.heap H).get? b = some o := fun e n => hidT_get e n
    have noA : ∀ {b : Addr} {o : Obj} {es : Array DictEntry} {ep : Nat}, s₁.heap.get? b = some o → o.data = .dict es ep → H b = none := fun {b o es ep} e d => by
      cases q : H b with
      | none => rfl
      | some u =>
        have e' : b = a := hA b (by rw [q]; simp)
        subst e'
        rw [ha] at e; cases e
        have d' : Data.seq vs.toArray _ = Data.dict es ep := d
        cases d'
    have nsK : ∀ {b : Addr} {m : Str → Option Value}, s₁.heap.Ns b m → (hidT s₁.heap H).Ns b m := fun {b m} ⟨o, es, ep, e, d, r⟩ => ⟨o, es, ep, base_of e (noA e d), d, r⟩
    have hKb : K.In (hidT s₁.heap H) := fun b o e => base_of (KX b o e) (by
      cases q : H b with
      | none => rfl
      | some u =>
        have e' : b = a := hA b (by rw [q]; simp)
        subst e'
        rw [hK (by rw [q]; simp)] at e; cases e)
    have hM : Mod K mg (hidT s₁.heap H) := ⟨hKb, nsK hns, ⟨mb, nsK hb, hbb⟩, let ⟨mc, h1, h2⟩ := hlim; ⟨mc, nsK h1, h2⟩⟩
    have e0 : Env0 P w K mg (hidT s₁.heap H) callerA [] s₁ H := ⟨rfl, hM, fun b o e => of_hidT e, Nat.le_of_eq (hidT_size _ _), trivial, fun b hb => absurd (show b ∈ ([] : List Addr) from hb) (by simp), hok, .of_eq hg⟩
    refine codeAny_mono ((F _ hKb (nsK hns)).run callerA [] s₁ H ⟨[.ref a], []⟩ [.ref a] [.ref a] _ _ hr e0 (hbind s₁ (.ref a)) (.cons rfl .nil) (hsp H hO hS)) fun r s' h => ?_
    cases r with
    | error e => exact (hCX H e s' h).elim
    | ok fl =>
      cases fl with
      | next => exact False.elim h
      | brk => exact False.elim h
      | cont => exact False.elim h
      | ret u =>
        obtain ⟨v, H', os, bare, un, hok', r', q⟩ := h
        have q' : v = .bl true := q
        subst q'
        obtain rfl : u = Value.bool true := r'
        refine ⟨rfl, OldK.of_keep fun b o e => ?_, os, bare⟩
        cases q : H b with
        | none => exact un.keep b o e q (by intro z; exact absurd (show b ∈ ([] : List Addr) from z) (by simp)) (by simp)
        | some u =>
          rcases hO b with z | ⟨ob, xs, z⟩
          · rw [q] at z; cases z
          · have z2 := un.frzs b ob _ z
            obtain ⟨e1, _⟩ := hok b _ z
            obtain ⟨e2, _⟩ := hok' b _ z2
            rw [e] at e1; cases e1
            exact e2
  cases hk : K.lookup a with
  | some o =>
    -- the script is one of the module's own objects
    have e := KX a o hk
    rw [ha] at e
    cases e
    refine core (fun _ => none) (fun _ => .inl rfl) (.inr ⟨_, vs.toArray, _, hk, rfl, rfl, rfl, by rw [List.size_toArray, lenV]; exact hl, by simpa using rv⟩) (fun b u z => by have z' : (none : Option HO) = some u := z; cases z') (fun b z => absurd rfl z) fun z => absurd rfl z
  | none =>
    refine core (fun b => if b = a then some (.frz { cls := .type "list", data := .seq vs.toArray } (.lst (ns.map V.int))) else none) (fun b => ?_) (.inl (.inr ⟨{ cls := .type "list", data := .seq vs.toArray }, if_pos rfl⟩)) (fun b u z => ?_) (fun b z => ?_) fun _ => hk
    · by_cases hb : b = a
      · exact .inr ⟨_, _, if_pos hb⟩
      · exact .inl (if_neg hb)
    · by_cases hb : b = a
      · have z' := (if_pos hb).symm.trans z
        cases z'
        subst hb
        exact ⟨ha, by rw [List.length_map]; exact hl, vs, _, rv, ha⟩
      · have z' := (if_neg hb).symm.trans z
        cases z'
    · by_cases hb : b = a
      · exact hb
      · exact absurd (if_neg hb) z
end L2

namespace L2
open PySem PySem.Spec PyProof.Rows

abbrev KOf {K : PySem.W.Frag} {h : Heap} (_ : K.In h) : PySem.W.Frag := K

/-- the goal that k_head leaves (case hc), from the law's promise. F gives the function object fd (K's own) once, then the promise over every base -/
theorem walk_of {l : PySem.W.OpenLaw} {n k : Nat} {q : Program} {loose : List Str} {XP : (Str → Option Value) → Heap → Prop} {YP : World → Heap → Prop} {d : DefRec} {K : Params → PySem.W.Frag} {CX : World → CXT} {sp : World → Sp} {x : Str}
    (hn : l.most = some n) (hn2 : n ≤ sizeLine) (hdf : d.params.defaults = []) (hr : Room k callerA)
    (hY : ∀ (w : World) (h : Heap), YP w h → (K w.params).In h)
    (F : ∀ (w : World) (mg : Str → Option Value) (fa : Addr) (h : Heap), (K w.params).In h → h.Ns mainGlobals mg → mg d.name = some (.ref fa) →
      ∃ fd : FuncData, (∀ (s : Shared) (u : Value), BindsTo s fd ⟨[u], []⟩ [(x, u)]) ∧
        ∀ base : Heap, (K w.params).In base → base.Ns mainGlobals mg → FnOk l.prog w (K w.params) mg base (CX w) k fa fd [x] (sp w))
    (hsp : ∀ (w : World) (H : Hp) (a : Addr) (ns : List Int), ns.length ≤ n → Only H → SqL (K w.params) H a (ns.map V.int) → sp w [.ref a] H (fun v _ => v = .bl true) fun _ _ _ => False)
    (hCX : ∀ (w : World) (H : Hp) (s : Shared) (e : Value) (s' : Shared), CX w [] H s (fun _ _ _ => False) e s' → False) :
    PySem.W.WalkO q loose XP YP l.row.toRowW d [] (fun f vs => PySem.call f vs) := by
  refine Att.attach_call hn hdf fun w s₀ s₁ mg mb fa o pm cd doc a vs ns G Y ho hd hcd hmg hobj hints hlen hg => ?_
  have KX := hY w _ Y
  obtain ⟨fd, hb, hF⟩ := F w mg fa _ KX G.T.g hmg
  exact law_call KX G.T.g G.T.b G.T.builtins G.T.nolimit hg hobj hints (Nat.le_trans hlen hn2) hr hF hb (fun H hO hS => hsp w H a ns hlen hO hS) fun H e s' => hCX w H s₁ e s'
end L2

/- THE LAST THEOREM (shape; LID, My.* are yours):
   My.Adr: a structure of the addresses that your layer names (classes, functions); My.Txt K t: a structure (Prop) of the equations over K;
   My.txt_mk : {K} {implicit addresses ..} (e1 : nsIn K mainGlobals "law" = some (some (.ref f))) (e2 : K.lookup f = some ⟨oc, od, .func (fnOf "law" "law" params body scope dV kV doc pm an cdv ct), sl⟩) (e3 : codeIn K cdv "law" = true) .. : ∃ t, My.Txt K t

set_option maxRecDepth 100000 in
set_option maxHeartbeats 0 in
theorem PySem.Challenge.cw_LID_holds : PySem.Challenge.rw_LID.Holds := by
  w_on; o_law; k_head; (case hw => w_witness2)
  k_fill
  refine L2.walk_of (l := PySem.Challenge.rw_LID) (n := 63) (k := 40) (x := "script") (CX := fun w => ..) (sp := fun _ => My.sp_law) rfl (by decide) rfl ⟨rfl, by decide, by decide⟩ (fun w h Y => PySem.W.kIn_of Y) ?F ?S ?C
  case F =>
    intro w mg fa h KX G hmg
    have T : ∃ t, My.Txt (L2.KOf KX) t := by
      dsimp only [L2.KOf]                          -- K must stand as «<heap const> w.params» for k_is
      refine' My.txt_mk ?e1 ?e2 ?e3 ..
      (case e1 => PySem.W.k_is)                    -- in the order: a name -> its address -> its object -> its parts
      (case e2 => PySem.W.k_is)
      ..
    obtain ⟨t, T⟩ := T
    have e0 := hmg.symm.trans (PySem.W.mg_of KX G T.law)
    cases e0                                       -- fa is the law's own address
    exact ⟨_, fun s u => .of_eq rfl, fun base kb nb => My.law_fn T kb nb⟩     -- if «.of_eq rfl» comes too early: refine' ⟨_, ?b, fun base kb nb => My.law_fn T kb nb⟩; exact fun s u => .of_eq rfl
  case S => exact fun w H a ns hl hO hS => ..
  case C => exact ..
(the tactic k_is has no namespace: write k_is) -/

/-! SHORT WORDS over the layer: a def of the text, its body, what a loop and a test want. -/
namespace L2
open PySem PySem.Spec PyProof.Rows

/-! ### the text by places -/
def defArgs (s : Stmt) : Arguments := match s with
  | .FunctionDef _ a _ _ _ _ _ _ _ _ => a
  | _ => { posonlyargs := [], args := [], vararg := none, kwonlyargs := [], kw_defaults := [], kwarg := none, defaults := [] }
def defBody (s : Stmt) : List Stmt := match s with
  | .FunctionDef _ _ b _ _ _ _ _ _ _ => b
  | _ => []
def defScope (s : Stmt) : Scope := match s with
  | .FunctionDef _ _ _ _ _ _ sc _ _ _ => sc
  | _ => { kind := .function, names := [], isGenerator := false, isCoroutine := false }

/-! ### no exception leaves a def -/
abbrev CX0 : CXT := fun _ _ _ _ _ _ => False
abbrev E0 : XK := fun _ _ _ => False
theorem pass0 {X : Cx} : Passes CX0 X E0 := fun _ _ _ _ _ _ _ h => h.elim

/-! ### a def (or method) of the text as it stands behind the top -/
structure Fun (K : PySem.W.Frag) (x qual : Str) (st : Stmt) (f : Addr) (fd : FuncData) : Prop where
  ex : ∃ (oc : Value) (od : Option Addr) (kV doc pm : Value) (an : Option Addr) (cdv ct : Value) (osl : Array (Option Value)),
    fd = PySem.W.fnOf x qual (defArgs st) (defBody st) (defScope st) .none kV doc pm an cdv ct ∧ K.lookup f = some ⟨oc, od, .func fd, osl⟩ ∧ PySem.W.codeIn K cdv qual = true
  kp : PySem.W.keepIn K (.ref f) = true
section
variable {P : Program} {w : World} {K : PySem.W.Frag} {mg : Str → Option Value} {base : Heap}
/-- THE RULE for a def: its body as a term of rules, and the reading of that term -/
theorem Fun.ok {x qual : Str} {st : Stmt} {f : Addr} {fd : FuncData} {N ps : List Str} {k : Nat} {sp : Sp} (F : Fun K x qual st f fd) (S : FnScope N ps (defScope st)) (len : ∀ vs H Q E, sp vs H Q E → vs.length = ps.length)
    (hbody : ∀ (cdv : Value) (A : Around) (outer : List Env) (s : Shared) (H : Hp) (vs : List V) (Q : VK) (E : XK), Room k (A.deeper (envOfC qual (defScope st) s.heap.objs.size f cdv)) → sp vs H Q E →
      ∃ t, PSs (cxOf CX0 P w K mg base N qual (defScope st) f cdv A outer s H E).nox (defBody st) t ∧ t { nx := fun _ H' => Q .non H', rt := Q } (start N vs) H) : FnOk P w K mg base CX0 (k + 1) f fd ps sp := by
  obtain ⟨oc, od, kV, doc, pm, an, cdv, ct, osl, rfl, lk, hcd⟩ := F.ex
  refine fn_of lk hcd S len fun A outer s H vs Q E hr hsp => ?_
  obtain ⟨t, h, q⟩ := hbody cdv A outer s H vs Q E hr hsp
  exact ⟨t, h.nox, q⟩
/-- how its arguments bind (no defaults): h is «fun _ _ _ _ _ _ us hl => match us, hl with | [_, _], _ => rfl», one _ a parameter -/
theorem Fun.binds {x qual : Str} {st : Stmt} {f : Addr} {fd : FuncData} {ps : List Str} (F : Fun K x qual st f fd)
    (h : ∀ (kV doc pm : Value) (an : Option Addr) (cdv ct : Value) (us : List Value), us.length = ps.length → bindArgs (PySem.W.fnOf x qual (defArgs st) (defBody st) (defScope st) .none kV doc pm an cdv ct) ⟨us, []⟩ = pure (ps.zip us)) : Binds K fd ps [] := by
  obtain ⟨oc, od, kV, doc, pm, an, cdv, ct, osl, rfl, lk, hcd⟩ := F.ex
  exact .all (h kV doc pm an cdv ct)
theorem fun_mk {x qual : Str} {st : Stmt} {f : Addr} {oc : Value} {od an : Option Addr} {osl : Array (Option Value)} {kV doc pm cdv ct : Value} (l : K.lookup f = some ⟨oc, od, .func (PySem.W.fnOf x qual (defArgs st) (defBody st) (defScope st) .none kV doc pm an cdv ct), osl⟩)
    (c : PySem.W.codeIn K cdv qual = true) (k : PySem.W.keepIn K (.ref f) = true) : Fun K x qual st f (PySem.W.fnOf x qual (defArgs st) (defBody st) (defScope st) .none kV doc pm an cdv ct) := ⟨⟨oc, od, kV, doc, pm, an, cdv, ct, osl, rfl, l, c⟩, k⟩
end
/-! ### expressions in short: the name that stands in the i-th slot -/
section
variable {X : Cx}
end

/-! ### tests -/
/-! ### heaps -/
/-- all that was tracked is as it was -/
def Same (H H' : Hp) : Prop := ∀ b o, H b = some o → H' b = some o
theorem Same.refl (H : Hp) : Same H H := fun _ _ h => h
theorem Same.trans {H H1 H2 : Hp} (a : Same H H1) (b : Same H1 H2) : Same H H2 := fun c o h => b c o (a c o h)
theorem Same.free {H H' : Hp} (e : Same H H') {l : Addr} (h : H' l = Option.none) : H l = Option.none := by
  cases q : H l with
  | none => rfl
  | some o =>
    rw [e l o q] at h
    cases h
theorem Same.seq {K : PySem.W.Frag} {H H' : Hp} {a : Addr} {xs : List V} (e : Same H H') (h : SqL K H a xs) : SqL K H' a xs := by
  rcases h with (h | ⟨o, h⟩) | h
  · exact .inl (.inl (e _ _ h))
  · exact .inl (.inr ⟨o, e _ _ h⟩)
  · exact .inr h

end L2

set_option Elab.async false
set_option linter.all false
set_option maxRecDepth 100000
namespace L2
open PySem PySem.Spec PyProof.Rows

/-! ### comprehensions -/
theorem compLoop_any {prog : Program} {w : World} {A : Around} {R : Result → Shared → Prop} {s : Shared} {elt target iter : Expr} {ifs : List Expr} {scope : Scope} {pos : Pos} {it acc : Value} {env : Env} (I : Nat → Shared → Prop)
    (turn : ∀ n s, I n s → wpAny (model prog w) A (pyNext it) (fun r s₁ => match r with
      | none => R (.ok .next) s₁
      | some v => wpAny (model prog w) A (letOwnedTupleGo target it v) (fun _ s₁' => wpAny (model prog w) A (assign target env v) (fun _ s₂ =>
          wpAny (model prog w) A (forIn ifs true fun c r => if r = true then do let ok ← isTrue c env (eval c env); pure (ForInStep.yield ok) else pure (ForInStep.yield r)) (fun ok s₃ =>
            if ok = true then wpAny (model prog w) A (eval elt env) (fun x s₄ =>
              wpAny (model prog w) A (call (.builtin "list.append") [acc, x]) (fun _ s₅ => ∃ m, m < n ∧ I m s₅) (fun _ _ => False) s₄) (fun _ _ => False) s₃
            else ∃ m, m < n ∧ I m s₃) (fun _ _ => False) s₂) (fun _ _ => False) s₁') (fun _ _ => False) s₁) (fun _ _ => False) s)
    (n : Nat) (h : I n s) :
    codeAny (model prog w) A (.compLoop (.ListComp elt [⟨target, iter, ifs, 0⟩] scope pos) 0 it acc env) R s := by
  refine codeAny_loop rfl I (fun n s hI => ?_) n h
  show wpAny _ A ((compTurn (.ListComp elt [⟨target, iter, ifs, 0⟩] scope pos) 0 it acc env).onRaise (fun x => do noteFrame x env; theTreesLotGoes x)) _ _ s
  refine wpAny_noted ?_
  rw [compTurn_list]
  refine wpAny_bind (wpAny_standAt (wpAny_bind (wpAny_mono (turn n s hI) (fun r s₁ h₁ => ?_) fun _ _ h' => h'.elim)))
  cases r with
  | none => exact wpAny_pure h₁
  | some v =>
    refine wpAny_bind (wpAny_mono h₁ (fun _ s₁' h₁' => ?_) fun _ _ h' => h'.elim)
    refine wpAny_bind (wpAny_mono h₁' (fun _ s₂ h₂ => wpAny_bind (wpAny_mono h₂ (fun ok s₃ h₃ => ?_) fun _ _ h' => h'.elim)) fun _ _ h' => h'.elim)
    cases ok with
    | false => exact wpAny_pure ⟨rfl, h₃⟩
    | true =>
      exact wpAny_bind (wpAny_bind (wpAny_mono h₃ (fun x s₄ h₄ => wpAny_bind (wpAny_mono h₄ (fun _ s₅ h₅ => wpAny_pure (wpAny_pure ⟨rfl, h₅⟩)) fun _ _ h' => h'.elim)) fun _ _ h' => h'.elim))

/-- the tests of a clause -/
def PTs (X : Cx) (ifs : List Expr) (t : TT) : Prop :=
  ∀ (pins : List (Addr × Obj)) (s : Shared) (σ : St) (H : Hp) (Q : Bool → Hp → Prop), Inv X pins σ H s → t σ H Q →
    wpAny (model X.prog X.w) X.A (forIn ifs true fun c r => if r = true then do let ok ← isTrue c X.env (eval c X.env); pure (ForInStep.yield ok) else pure (ForInStep.yield r)) (TP X pins σ Q) X.xe s
def tYes : TT := fun _ H Q => Q true H
theorem pts_nil {X : Cx} : PTs X [] tYes := fun _ _ _ H _ I h => wpAny_tests_nil ⟨H, I, h⟩
theorem pts_one {X : Cx} {c : Expr} {t : TT} (h : PT X c t) : PTs X [c] t := fun pins s σ H Q I hw => wpAny_tests_one (h pins s σ H Q I hw)

/-- the closure of a comprehension: the cells of its free names -/
theorem closure_ex {env : Env} : ∀ (names : List (Str × NameKind)) (acc : List (Str × Addr)), (∀ y ∈ names, y.2 = .free → ∃ c, env.cells.lookup y.1 = some c) → (∀ y ∈ acc, env.cells.lookup y.1 = some y.2) →
    ∃ cl : List (Str × Addr), (forIn (m := Sem) names acc fun (x : Str × NameKind) cs => if (x.2 == NameKind.free) = true then (do let a ← cellOf env x.1; pure (ForInStep.yield ((x.1, a) :: cs))) else pure (ForInStep.yield cs)) = pure cl ∧
      (∀ y ∈ cl, env.cells.lookup y.1 = some y.2) ∧ (∀ y ∈ acc, y ∈ cl) ∧ ∀ y ∈ names, y.2 = .free → ∃ c, (y.1, c) ∈ cl
  | [], acc, _, ha => ⟨acc, rfl, ha, fun _ h => h, fun _ h => nomatch h⟩
  | (n, k) :: r, acc, hf, ha => by
    by_cases hk : k = .free
    · subst hk
      obtain ⟨c, hc⟩ := hf (n, .free) List.mem_cons_self rfl
      obtain ⟨cl, e, h1, h2, h3⟩ := closure_ex r ((n, c) :: acc) (fun y hy => hf y (List.mem_cons_of_mem _ hy)) (fun y hy => by
        rcases List.mem_cons.mp hy with rfl | hy
        · exact hc
        · exact ha y hy)
      refine ⟨cl, ?_, h1, fun y hy => h2 y (List.mem_cons_of_mem _ hy), fun y hy hk => ?_⟩
      · rw [List.forIn_cons]
        have e1 : cellOf env n = pure c := by unfold cellOf; rw [hc]
        simp only [beq_self_eq_true, if_true, e1]
        exact e
      · rcases List.mem_cons.mp hy with rfl | hy
        · exact ⟨c, h2 _ List.mem_cons_self⟩
        · exact h3 y hy hk
    · have hb : (k == NameKind.free) = false := by simpa using hk
      obtain ⟨cl, e, h1, h2, h3⟩ := closure_ex r acc (fun y hy => hf y (List.mem_cons_of_mem _ hy)) ha
      refine ⟨cl, ?_, h1, h2, fun y hy hk' => ?_⟩
      · rw [List.forIn_cons]
        simp only [hb, Bool.false_eq_true, if_false]
        exact e
      · rcases List.mem_cons.mp hy with rfl | hy
        · exact absurd hk' hk
        · exact h3 y hy hk'
theorem closureFor_ex {env : Env} {scope : Scope} (hf : ∀ y ∈ scope.names, y.2 = .free → ∃ c, env.cells.lookup y.1 = some c) :
    ∃ cl : List (Str × Addr), closureFor scope env = pure cl ∧ (∀ y ∈ cl, env.cells.lookup y.1 = some y.2) ∧ ∀ y ∈ scope.names, y.2 = .free → ∃ c, (y.1, c) ∈ cl := by
  obtain ⟨cl, e, h1, _, h3⟩ := closure_ex scope.names [] hf (fun _ h => nomatch h)
  refine ⟨cl, ?_, h1, h3⟩
  unfold closureFor
  simp only [bind_pure]
  exact e
end L2

set_option Elab.async false
set_option linter.all false
set_option maxRecDepth 100000
namespace L2
open PySem PySem.Spec PyProof.Rows

/-- the context of a comprehension's block -/
abbrev cxComp (X : Cx) (scope : Scope) (cl : List (Str × Addr)) (C : Addr) (N : List Str) (s₀ : Shared) (H₀ : Hp) (ex : List Addr) : Cx where
  prog := X.prog
  w := X.w
  K := X.K
  mg := X.mg
  base := X.base
  A := X.A
  N := N
  s₀ := s₀
  H₀ := H₀
  env := compEnvC scope cl C X.env
  outer := X.stack
  stack := X.stack
  ex := ex
  fn := fun _ => false
  calm := X.calm
  pn := []
  xe := fun _ _ => False

theorem lookup_mem {α β : Type} [BEq α] [LawfulBEq α] {l : List (α × β)} {x : α} {y : β} (h : l.lookup x = some y) : (x, y) ∈ l := by
  induction l with
  | nil => cases h
  | cons p r ih =>
    obtain ⟨a, b⟩ := p
    rw [List.lookup_cons] at h
    cases e : (x == a) with
    | true => rw [e] at h; cases h; rw [eq_of_beq e]; exact List.mem_cons_self
    | false => rw [e] at h; exact List.mem_cons_of_mem _ (ih h)
theorem mem_lookup {α β : Type} [BEq α] [LawfulBEq α] {l : List (α × β)} {x : α} {y : β} (h : (x, y) ∈ l) : ∃ z, l.lookup x = some z := by
  induction l with
  | nil => cases h
  | cons p r ih =>
    obtain ⟨a, b⟩ := p
    rw [List.lookup_cons]
    cases e : (x == a) with
    | true => exact ⟨_, rfl⟩
    | false =>
      rcases List.mem_cons.mp h with q | q
      · cases q; simp at e
      · exact ih q
theorem relabel_mem {scope : Scope} {env : Env} {y : Str} {k : NameKind} (h : (y, k) ∈ (relabel scope env).names) : (y, k) ∈ scope.names ∨ (k = .cell ∧ (y, NameKind.free) ∈ scope.names) := by
  unfold relabel at h
  obtain ⟨⟨n, k'⟩, hm, e⟩ := List.mem_map.mp h
  dsimp only at e
  split at e
  · rename_i hc
    cases e
    have : k' = .free := by
      have := hc
      simp only [Bool.and_eq_true, beq_iff_eq] at this
      exact this.1.1
    subst this
    exact .inr ⟨rfl, hm⟩
  · cases e; exact .inl hm

theorem lookup_relabel_free {env : Env} : ∀ {names : List (Str × NameKind)} {x : Str}, names.lookup x = some .free →
    (names.map fun (n, k) => if (k == NameKind.free && env.scope.kind == .function && env.kindOf n == some .cell) then (n, NameKind.cell) else (n, k)).lookup x = some .cell ∨
    (names.map fun (n, k) => if (k == NameKind.free && env.scope.kind == .function && env.kindOf n == some .cell) then (n, NameKind.cell) else (n, k)).lookup x = some .free
  | [], _, h => by simp at h
  | (n, k) :: r, x, h => by
    have ih := @lookup_relabel_free env r x
    show List.lookup x ((if (k == NameKind.free && env.scope.kind == .function && env.kindOf n == some .cell) = true then (n, NameKind.cell) else (n, k)) :: _) = _ ∨ List.lookup x ((if (k == NameKind.free && env.scope.kind == .function && env.kindOf n == some .cell) = true then (n, NameKind.cell) else (n, k)) :: _) = _
    cases hx : x == n with
    | true =>
      simp only [List.lookup_cons, hx] at h
      cases h
      by_cases hc : (NameKind.free == NameKind.free && env.scope.kind == .function && env.kindOf n == some .cell) = true
      · rw [if_pos hc]; simp [List.lookup_cons, hx]
      · rw [if_neg hc]; simp [List.lookup_cons, hx]
    | false =>
      simp only [List.lookup_cons, hx] at h
      by_cases hc : (k == NameKind.free && env.scope.kind == .function && env.kindOf n == some .cell) = true
      · rw [if_pos hc]; simp only [List.lookup_cons, hx]; exact ih h
      · rw [if_neg hc]; simp only [List.lookup_cons, hx]; exact ih h

/-- the slots of the block: the loop's name, then the free names -/
def compSt (fs : List Nat) (σ : St) : St := fs.map fun j => (σ[j]?).join
/-- [e for x in it if t]: W the invariant by the turn, a measure, the items so far and the heap -/
def tComp (wi : TI) (fs : List Nat) (tt : TT) (te : TE) : TE := fun σ H Q => wi σ H fun J H1 => ∃ W : Nat → Nat → List V → Hp → Prop, (∃ m, W 0 m [] H1) ∧ ∀ i m ys H, W i m ys H → ys.length ≤ sizeLine ∧
  ((J.stop i H ∧ ∀ p, H p = none → Q (.ref p) (upd H p (.lst ys))) ∨
   (J.go i H ∧ ys.length < sizeLine ∧ ∀ x H', J.yld i H x H' → tt (some x :: compSt fs σ) H' fun b H2 => if b = true then te (some x :: compSt fs σ) H2 fun y H3 => ∃ m', m' < m ∧ W (i + 1) m' (ys ++ [y]) H3 else ∃ m', m' < m ∧ W (i + 1) m' ys H2))

section
variable {X : Cx}
theorem comp_block {elt iter : Expr} {x : Str} {px pos : Pos} {ifs : List Expr} {scope : Scope} {fs : List (Str × Nat)} {tt : TT} {te : TE}
    {pins : List (Addr × Obj)} {σ : St} {H2 : Hp} {s2 : Shared} {it : Addr} {fp : List Addr} {tn : Nat → Heap → Prop} {J : It} {cl : List (Str × Addr)} {E : Value → Shared → Prop}
    {P : Value → Addr → Result → Shared → Prop}
    (hc : X.calm = true) (hkind : scope.kind = .function) (hcell : ∀ y ∈ scope.names, y.2 ≠ .cell) (hx : scope.names.lookup x = some .local)
    (hnd : (x :: fs.map (·.1)).Nodup) (hfs : ∀ f ∈ fs, X.N[f.2]? = some f.1 ∧ (X.env.kindOf f.1 = some .cell ∨ X.env.kindOf f.1 = some .free) ∧ scope.names.lookup f.1 = some .free)
    (hb : ∀ (cl : List (Str × Addr)) (C : Addr) (s₀ : Shared) (H₀ : Hp) (ex : List Addr), PTs (cxComp X scope cl C (x :: fs.map (·.1)) s₀ H₀ ex) ifs tt ∧ PE (cxComp X scope cl C (x :: fs.map (·.1)) s₀ H₀ ex) elt te)
    (hcl1 : ∀ y ∈ cl, X.env.cells.lookup y.1 = some y.2) (hcl2 : ∀ y ∈ scope.names, y.2 = .free → ∃ c, (y.1, c) ∈ cl)
    (I2 : Inv X pins σ H2 s2) (T : Turn X.prog X.w X.K (.Name x px) J fp it tn) (st2 : tn 0 s2.heap) (f2 : ∀ b ∈ fp, FpOk X pins H2 b)
    (W : Nat → Nat → List V → Hp → Prop) (Qe : Hp → List V → Prop) (w0 : ∃ m, W 0 m [] H2)
    (turn : ∀ i m ys H, W i m ys H → ys.length ≤ sizeLine ∧
      ((J.stop i H ∧ Qe H ys) ∨
       (J.go i H ∧ ys.length < sizeLine ∧ ∀ x H', J.yld i H x H' → tt (some x :: compSt (fs.map (·.2)) σ) H' fun b H2 => if b = true then te (some x :: compSt (fs.map (·.2)) σ) H2 fun y H3 => ∃ m', m' < m ∧ W (i + 1) m' (ys ++ [y]) H3 else ∃ m', m' < m ∧ W (i + 1) m' ys H2)))
    (hP : ∀ (D C : Addr) (H' : Hp) (s' : Shared) (ys : List V) (its : List Value) (m : Str → Option Value), s2.heap.objs.size ≤ C → s2.heap.get? D = none → s2.heap.get? C = none → D ≠ C → H' D = none → H' C = none → s'.heap.Ns C m → s'.heap.PlainList D its.toArray → Vals ys its → ys.length ≤ sizeLine → Qe H' ys →
      Un (frs X.stack) fp H2 H' s2.heap s'.heap → HOk X.prog X.w H' s'.heap → AllBare s'.gens → s'.os = s2.os → P (.ref D) C (.ok .next) s') :
    wpAny (model X.prog X.w) X.A (newList []) (fun acc s₃ => wpAny (model X.prog X.w) X.A (newFunctionEnv scope X.env.globals cl [] X.env.qual none .none (some X.env)) (fun cenv s₄ =>
      codeAny (model X.prog X.w) X.A (.compStart (.ListComp elt [⟨.Name x px, iter, ifs, 0⟩] scope pos) 0 (.ref it) acc { cenv with scope := relabel scope X.env }) (P acc cenv.locals) s₄) E s₃) E s2 := by
  refine wpAny_newObj_type (wpAny_newFunctionEnv hcell (by intro y hy; simp at hy) (fun h₁ hns₁ hsb₁ => ?_) hkind)
  dsimp only at hns₁ hsb₁ ⊢
  generalize hH2 : s2.heap.push { cls := .type "list", dict := none, data := .seq ([] : List Value).toArray } = HH at hns₁ hsb₁ ⊢
  have hC : HH.objs.size = s2.heap.objs.size + 1 := by rw [← hH2, Heap.size_push]
  generalize eD : s2.heap.objs.size = D at *
  generalize eC : HH.objs.size = C at *
  have hDC : D ≠ C := by rw [hC]; exact Nat.ne_of_lt (Nat.lt_succ_self _)
  have fresh : ∀ a, D ≤ a → s2.heap.get? a = none := fun a ha => Heap.get?_none_of_le (by rw [eD]; exact ha)
  have hD0 : s2.heap.get? D = none := fresh D (Nat.le_refl _)
  have hC0 : s2.heap.get? C = none := fresh C (by rw [hC]; exact Nat.le_succ _)
  have old : ∀ b o, s2.heap.get? b = some o → h₁.get? b = some o := fun b o e => hsb₁.extBut b o (fun z => by rw [z, hC0] at e; cases e) (Heap.get?_push_of_some _ (hH2 ▸ Heap.get?_push_of_some _ e))
  have hacc : h₁.PlainList D #[] := ⟨0, hsb₁.extBut _ _ hDC (Heap.get?_push_of_some _ (hH2 ▸ (eD ▸ Heap.get?_push_size _ rfl)))⟩
  have HD : H2 D = none := I2.hok.fresh (by rw [eD]; exact Nat.le_refl _)
  have HC : H2 C = none := I2.hok.fresh (by rw [eD, hC]; exact Nat.le_succ _)
  -- the block's context
  let Y : Cx := cxComp X scope cl C (x :: fs.map (·.1)) s2 H2 fp
  have lk : ∀ y c, cl.lookup y = some c → X.env.cells.lookup y = some c := fun y c e => hcl1 (y, c) (lookup_mem e)
  have yok : Y.Ok := by
    refine ⟨I2.ok.mod, hkind, I2.ok.glob, I2.ok.blt, ?_, fun y z c h1 h2 => I2.ok.inj y z c (lk y c h1) (lk z c h2), fun y hy => ?_, fun _ _ h _ => absurd h Bool.false_ne_true, I2.ok.hd, I2.ok.frames, .inl rfl, fun b hb => ?_, I2.bs, ?_, fun b o e hb => ?_, fun b hb hz => ?_, I2.stack, I2.stkFree⟩
    · show s2.heap.objs.size ≤ C
      rw [eD, hC]; exact Nat.le_succ _
    · have hy' : (relabel scope X.env).names.lookup y = some .cell ∨ (relabel scope X.env).names.lookup y = some .free := hy
      have hm : (y, NameKind.free) ∈ scope.names := by
        rcases hy' with e | e
        · rcases relabel_mem (lookup_mem e) with q | ⟨_, q⟩
          · exact absurd rfl (hcell _ q)
          · exact q
        · rcases relabel_mem (lookup_mem e) with q | ⟨q, _⟩
          · exact q
          · cases q
      obtain ⟨c, q⟩ := hcl2 _ hm rfl
      exact mem_lookup q
    · obtain ⟨f0, f1, f3, f4, f5, f6⟩ := f2 b hb
      refine ⟨fun z => ?_, fun y c e => f5 y c (lk y c e)⟩
      obtain ⟨o, ho, _⟩ := T.obj _ _ st2 b hb
      have z' : b = C := z
      rw [z', hC0] at ho; cases ho
    · exact Nat.le_trans I2.ok.bsz I2.sz
    · obtain ⟨f0, f1, f3, f4, f5, f6⟩ := f2 b hb
      rcases f4 with z | z
      · exact I2.ok.noex b o e z
      · exact absurd (Nat.lt_of_lt_of_le (Heap.lt_size e) (Nat.le_trans I2.ok.bsz z)) (Nat.lt_irrefl _)
    · obtain ⟨f0, f1, f3, f4, f5, f6⟩ := f2 b hb
      rcases List.mem_cons.mp (I2.stkSub b hz) with z | z
      · exact f1 z
      · exact f3 z
  let τ : St := none :: compSt (fs.map (·.2)) σ
  have hτ : τ.length = (x :: fs.map (·.1)).length := by simp [τ, compSt]
  obtain ⟨mL, hnL, hlL⟩ := id I2.loc
  have yI : Inv Y [] τ H2 { s2 with heap := h₁, toks := s2.toks + ([] : List (Str × Value)).length } := by
    refine ⟨yok, rfl, I2.bare, Un.kept old, ⟨_, hns₁, fun i y v e1 e2 e3 => ?_⟩, fun y c e => ?_, HC, fun y c e => I2.freeC y c (lk y c e), (fun p hp => nomatch hp), I2.hok.kept old, hτ⟩
    · cases i with
      | zero => simp [τ] at e2
      | succ i =>
        have e1' : (fs.map (·.1))[i]? = some y := e1
        have e2' : (compSt (fs.map (·.2)) σ)[i]? = some (some v) := by simpa [τ] using e2
        rw [List.getElem?_map] at e1'
        cases q : fs[i]? with
        | none => rw [q] at e1'; cases e1'
        | some f =>
          rw [q] at e1'
          have ey : f.1 = y := Option.some.inj e1'
          obtain ⟨g1, g2, g3⟩ := hfs f (List.mem_of_getElem? q)
          have e2'' : (σ[f.2]?).join = some v := by
            unfold compSt at e2'
            rw [List.getElem?_map, List.getElem?_map, q] at e2'
            exact Option.some.inj e2'
          have e2c : σ[f.2]? = some (some v) := by
            cases r : σ[f.2]? with
            | none => rw [r] at e2''; cases e2''
            | some o => rw [r] at e2''; have e2'' : o = some v := e2''; rw [e2'']
          have vis : Vis X.env.scope f.1 := by
            rcases g2 with g | g
            · exact .inr (.inl g)
            · exact .inr (.inr g)
          obtain ⟨u, ru, lu⟩ := hlL f.2 f.1 v g1 e2c vis
          refine ⟨u, ru, ?_⟩
          have lu' : ∃ c, X.env.cells.lookup f.1 = some c ∧ s2.heap.IsCell c (some u) := by
            rcases lu with ⟨k, _⟩ | ⟨_, c, e, z⟩
            · rcases g2 with g | g
              · rw [k] at g; cases g
              · rw [k] at g; cases g
            · exact ⟨c, e, z⟩
          obtain ⟨c, hc1, hc2⟩ := lu'
          obtain ⟨c', hm⟩ := hcl2 _ (lookup_mem g3) rfl
          have hm' := hcl1 _ hm
          obtain ⟨c2, hl2⟩ := mem_lookup hm
          have := lk _ _ hl2
          rw [hc1] at this; cases this
          obtain ⟨oc, ho, hdt⟩ := hc2
          refine .inr ⟨?_, c, by rw [← ey]; exact hl2, oc, old c oc ho, hdt⟩
          rw [← ey]
          exact lookup_relabel_free g3
    · obtain ⟨v, oc, ho, hdt⟩ := I2.cell y c (lk y c e)
      exact ⟨v, oc, old c oc ho, hdt⟩
  have hx' : Y.env.scope.names.lookup x = some .local := lookup_relabel_local hx
  have fpD : ∀ b ∈ fp, b ≠ D := fun b hb z => by
    obtain ⟨o, ho, _⟩ := T.obj _ _ st2 b hb
    rw [z, hD0] at ho; cases ho
  have stD : D ∉ frs X.stack := fun hz => by
    rcases List.mem_cons.mp (I2.stkSub D hz) with z | z
    · have := I2.lt; rw [eD, ← z] at this; exact absurd this (Nat.lt_irrefl _)
    · exact I2.nofs (by rw [eD]; exact Nat.le_refl _) z
  have cellD : ∀ y c, cl.lookup y = some c → c ≠ D := fun y c e z => by
    obtain ⟨v, oc, ho, _⟩ := I2.cell y c (lk y c e)
    rw [z, hD0] at ho; cases ho
  have stat : ∀ {H' : Hp} {oD : Obj}, (∀ b ∈ fp, H' b = none) → ∀ b ∈ fp, FpOk Y [(D, oD)] H' b := fun hn b hb => by
    refine ⟨hn b hb, (yok.exf b hb).1, yok.exfs b hb, .inl hb, (yok.exf b hb).2, fun p hp z => ?_⟩
    have hp' : p ∈ [(D, _)] := hp
    rw [List.mem_singleton.mp hp'] at z
    exact fpD b hb z.symm
  obtain ⟨m0, w0⟩ := w0
  have loop : ∀ s₃ : Shared, s₃ = { s2 with heap := h₁, toks := s2.toks + ([] : List (Str × Value)).length } →
      codeAny (model X.prog X.w) X.A (.compLoop (.ListComp elt [⟨.Name x px, iter, ifs, 0⟩] scope pos) 0 (.ref it) (.ref D) (compEnvC scope cl C X.env)) (P (.ref D) C) s₃ := by
    rintro s₃ rfl
    refine compLoop_any (fun n s' => ∃ i ys its H', Inv Y [] τ H' s' ∧ tn i s'.heap ∧ (∀ b ∈ fp, H' b = none) ∧ H' D = none ∧ s'.heap.PlainList D (List.toArray its) ∧ Vals ys its ∧ W i n ys H') ?_ m0
      ⟨0, [], [], H2, yI, T.keep _ _ _ st2 (fun b _ o e => old b o e), fun b hb => (f2 b hb).1, HD, hacc, .nil, w0⟩
    rintro n s3 ⟨i, ys, its, H3, I3, st3, fr3, hD3, ⟨n0, hoD⟩, rv3, w3⟩
    obtain ⟨hz, ht⟩ := turn i n ys H3 w3
    have I3' : Inv Y [(D, { cls := .type "list", data := .seq its.toArray n0 })] τ H3 s3 := I3.pins_of fun p hp => by
      rw [List.mem_singleton.mp hp]
      exact ⟨hoD, hD3, hDC, stD, fun v z => by cases z⟩
    rcases ht with ⟨stop, q⟩ | ⟨go, hz', step⟩
    · refine thn (T.done Y rfl rfl rfl hc i _ s3 τ H3 _ I3' (stat fr3) st3 stop) fun r s4 ⟨hr, I4⟩ => ?_
      subst hr
      obtain ⟨m, hn, _⟩ := I4.loc
      exact hP D C H3 s4 ys its m (by rw [hC]; exact Nat.le_succ _) hD0 hC0 hDC hD3 I4.free hn ⟨n0, (I4.pin (D, _) (List.mem_append_right _ List.mem_cons_self)).1⟩ rv3 hz q I4.base I4.hok I4.bare I4.os
    · refine thn (T.item Y rfl rfl rfl hc i _ s3 τ H3 _ I3' (stat fr3) st3 go) fun r s4 ⟨u, hr, h4⟩ => ?_
      subst hr
      refine thn h4 fun _ s5 ⟨x', H5, I5, r5, y5, st5, fr5⟩ => ?_
      have I5' := I5.pinned (fp := fp) (stat fr5) (T.obj _ _ st5)
      refine thn (pg_name (X := Y) (i := 0) (pos := px) hnd rfl (.inl hx') (.inr hx') _ s5 τ H5 x' u (fun σ' H' => σ' = some x' :: compSt (fs.map (·.2)) σ ∧ H' = H5) I5' r5 ⟨rfl, rfl⟩) fun _ s6 ⟨σ6, H6, I6, e6, e6'⟩ => ?_
      subst e6 e6'
      have back : ∀ {σ' : St} {H' : Hp} {s' : Shared}, Inv Y ([(D, { cls := .type "list", data := .seq its.toArray n0 })] ++ pinsAt fp s5.heap) (some x' :: compSt (fs.map (·.2)) σ) H' s' →
          Inv Y [] τ H' s' ∧ tn (i + 1) s'.heap ∧ (∀ b ∈ fp, H' b = none) ∧ H' D = none ∧ s'.heap.PlainList D its.toArray := fun {σ' H' s'} J' => by
        refine ⟨(J'.pins_of (pins' := []) (fun p hp => absurd hp (by simp))).weak rfl fun j v e => ?_, T.keep _ _ _ st5 fun b hb o e => (J'.pin (b, o) (List.mem_append_right _ (List.mem_append_right _ (mem_pinsAt hb e)))).1, fun b hb => ?_, ?_, n0, ?_⟩
        · cases j with
          | zero => cases e
          | succ j => exact e
        · obtain ⟨o, e, d⟩ := T.obj _ _ st5 b hb
          exact (J'.pin (b, o) (List.mem_append_right _ (List.mem_append_right _ (mem_pinsAt hb e)))).2.1
        · exact (J'.pin (D, _) (List.mem_append_right _ (List.mem_append_left _ List.mem_cons_self))).2.1
        · exact (J'.pin (D, _) (List.mem_append_right _ (List.mem_append_left _ List.mem_cons_self))).1
      refine thn ((hb cl C s2 H2 fp).1 _ s6 _ _ _ I6 (step x' H6 y5)) fun ok s7 ⟨H7, I7, q7⟩ => ?_
      cases ok with
      | false =>
        obtain ⟨m', hm, w7⟩ := q7
        obtain ⟨a1, a2, a3, a4, a5⟩ := back (σ' := τ) I7
        exact ⟨m', hm, i + 1, ys, its, H7, a1, a2, a3, a4, a5, rv3, w7⟩
      | true =>
        refine thn ((hb cl C s2 H2 fp).2 _ s7 _ _ _ I7 q7) fun y s8 ⟨yv, H8, I8, ry, m', hm, w8⟩ => ?_
        obtain ⟨a1, a2, a3, a4, a5⟩ := back (σ' := τ) I8
        have hlen := rv3.length
        refine wpAny_list_append_plain (hsz := by rw [List.size_toArray, ← hlen]; exact hz) a5 fun h' hl' hs' => ?_
        refine ⟨m', hm, i + 1, ys ++ [yv], its ++ [y], H8, a1.turned (t' := s8.toks) (it := D) (fun b o hb e => hs'.extBut b o hb e) a4 hDC (.inr (by show s2.heap.objs.size ≤ D; rw [eD]; exact Nat.le_refl _)) (fun y c e => cellD y c e) (fun p hp => absurd (show p ∈ ([] : List (Addr × Obj)) from hp) (by simp)), T.keep _ _ _ a2 fun b hb o e => hs'.extBut b o (fpD b hb) e, a3, a4, by simpa using hl', rv3.append (.cons ry .nil), w8⟩
  exact codeAny_compStart_list (loop _ rfl) (T.self X.A 0 _ _ _ (T.keep _ _ _ st2 (fun b _ o e => old b o e)) (loop _ rfl))

/-- behind the block: the list is tracked, the block's frame is let go -/
theorem comp_after {pins : List (Addr × Obj)} {σ : St} {H2 H' : Hp} {s2 s' : Shared} {fp : List Addr} {D C : Addr} {ys : List V} {its : List Value} {h' : Heap} {tk : Nat} (I2 : Inv X pins σ H2 s2) (f2 : ∀ b ∈ fp, FpOk X pins H2 b)
    (hD : s2.heap.get? D = none) (hC : s2.heap.get? C = none) (hDC : D ≠ C) (HD : H' D = none) (HC : H' C = none) (pl : s'.heap.PlainList D its.toArray) (rv : Vals ys its) (hz : ys.length ≤ sizeLine)
    (u : Un (frs X.stack) fp H2 H' s2.heap s'.heap) (hok : HOk X.prog X.w H' s'.heap) (hg : AllBare s'.gens) (ho : s'.os = s2.os) (hs : Heap.SameBut C s'.heap h') :
    Inv X pins σ (upd H' D (.lst ys)) { s' with heap := h', toks := tk } := by
  have kC : ∀ b o, b ≠ C → s'.heap.get? b = some o → h'.get? b = some o := fun b o hb e => hs.extBut b o hb e
  have neC : ∀ b o, s2.heap.get? b = some o → b ≠ C := fun b o e z => by rw [z, hC] at e; cases e
  have neD : ∀ b o, s2.heap.get? b = some o → b ≠ D := fun b o e z => by rw [z, hD] at e; cases e
  have trD : ∀ b o, H' b = some o → b ≠ D := fun b o e z => by rw [z, HD] at e; cases e
  refine I2.call' (ch := fp) ho ⟨fun b o e n hb hx => kC b o (neC b o e) (u.keep b o e n hb hx), fun b o e n hb hx => ?_, fun b o e n hx => ?_, fun b o e hx => ?_, fun b xs e => ?_, fun b o w e => ?_, fun b ps e => ?_⟩ (fun b o e => ?_) hg fun b hb => ?_
  · obtain ⟨sl, q⟩ := u.slot b o e n hb hx
    exact ⟨sl, kC b _ (neC b o e) q⟩
  · rw [upd_ne (neD b o e)]; exact u.free b o e n hx
  · obtain ⟨o', q⟩ := u.there b o e hx
    exact ⟨o', kC b _ (neC b o e) q⟩
  · have q := u.tups b xs e
    rw [upd_ne (trD b _ q)]; exact q
  · have q := u.frzs b o w e
    rw [upd_ne (trD b _ q)]; exact q
  · obtain ⟨more, q⟩ := u.tbls b ps e
    exact ⟨more, by rw [upd_ne (trD b _ q)]; exact q⟩
  · by_cases hb : b = D
    · subst hb
      rw [upd_same] at e
      cases e
      obtain ⟨n, q⟩ := pl
      exact ⟨hz, its, n, rv, kC b _ hDC q⟩
    · rw [upd_ne hb] at e
      refine (hok b o e).stay (fun c v hc q => kC c v (fun z => ?_) q) (fun c q => by rw [upd_ne (trD c _ q)]; exact q) fun c xs q => by rw [upd_ne (trD c _ q)]; exact q
      rcases hc with hc | hc
      · rw [hc] at z; rw [z, HC] at e; cases e
      · rw [z, HC] at hc; cases hc
  · obtain ⟨f0, f1, f3, f4, f5, f6⟩ := f2 b hb
    exact ⟨f4, f1, f5, f6⟩

theorem pe_comp {elt iter : Expr} {x : Str} {px pos : Pos} {ifs : List Expr} {scope : Scope} (fs : List (Str × Nat)) {wi : TI} {tt : TT} {te : TE}
    (hc : X.calm = true) (hkind : scope.kind = .function) (hcell : ∀ y ∈ scope.names, y.2 ≠ .cell) (hnames : ∀ y ∈ scope.names, y.2 = .local → scope.names.lookup y.1 = some .local)
    (hfree : ∀ y ∈ scope.names, y.2 = .free → X.env.kindOf y.1 = some .cell ∨ X.env.kindOf y.1 = some .free) (hx : scope.names.lookup x = some .local)
    (hnd : (x :: fs.map (·.1)).Nodup) (hfs : ∀ f ∈ fs, X.N[f.2]? = some f.1 ∧ (X.env.kindOf f.1 = some .cell ∨ X.env.kindOf f.1 = some .free) ∧ scope.names.lookup f.1 = some .free)
    (hi : PI X (.Name x px) iter wi)
    (hb : ∀ (cl : List (Str × Addr)) (C : Addr) (s₀ : Shared) (H₀ : Hp) (ex : List Addr), PTs (cxComp X scope cl C (x :: fs.map (·.1)) s₀ H₀ ex) ifs tt ∧ PE (cxComp X scope cl C (x :: fs.map (·.1)) s₀ H₀ ex) elt te)
    (hs : ∀ x, foldedSetIterable iter X.env x = pure x := by intro _; rfl) :
    PE X (.ListComp elt [⟨.Name x px, iter, ifs, 0⟩] scope pos) (tComp wi (fs.map (·.2)) tt te) := by
  intro pins s σ H Q I h
  obtain ⟨cl, hclos, hcl1, hcl2⟩ := closureFor_ex (env := X.env) (scope := scope) fun y hy hk => I.ok.has y.1 (hfree y hy hk)
  rw [eval_ListComp]
  refine wpAny_comprehension_free (use := none) rfl hs hclos hkind hnames (thn (hi pins s σ H _ I h) fun v s1 h1 => thn h1 fun itv s2 h2 => ?_)
  obtain ⟨it, fp, tn, J, H2, e, I2, T, st2, f2, W, w0, turn⟩ := h2
  subst e
  refine comp_block (pins := pins) hc hkind hcell hx hnd hfs hb hcl1 hcl2 I2 T st2 f2 W (fun H ys => ∀ p, H p = none → Q (.ref p) (upd H p (.lst ys))) w0 turn ?_
  intro D C H' s' ys its m hCs hD hC hDC HD HC hn pl rv hz q u hok hg ho
  exact ⟨m, hn, fun h' hs' => ⟨.ref D, _, comp_after (tk := s'.toks) I2 f2 hD hC hDC HD HC pl rv hz u hok hg ho hs', rfl, q D HD⟩⟩

/-- y = [..] in one line: the list is stored ahead of the letting go -/
def tCompSet (i : Nat) (wi : TI) (fs : List Nat) (tt : TT) (te : TE) : TS := fun D σ H => tComp wi fs tt te σ H fun v H1 => D.nx (σ.set i (some v)) H1
end
end L2

set_option Elab.async false
set_option linter.all false
set_option maxRecDepth 100000
namespace L2
open PySem PySem.Spec PyProof.Rows PySem.Builtin.Str

/-! ### texts as lists of codes -/
def txt (l : List Nat) : Str := ⟨l.toArray⟩
theorem txt_codes (x : Str) : txt x.cps.toList = x := by cases x; simp [txt]
theorem codes_txt (l : List Nat) : (txt l).cps.toList = l := by simp [txt]
theorem txt_len (l : List Nat) : (txt l).length = l.length := by simp [txt, Str.length]
theorem txt_inj {a b : List Nat} : txt a = txt b ↔ a = b := ⟨fun h => by simpa [txt] using h, fun h => by rw [h]⟩
theorem txt_app (a b : List Nat) : txt a ++ txt b = txt (a ++ b) := by
  show Str.mk (a.toArray ++ b.toArray) = _
  simp [txt]
/-- a[lo:hi] -/
def cutL (xs : List Nat) (lo hi : Option Int) : List Nat := (xs.drop (HT.sIx xs.length 0 lo)).take (HT.sIx xs.length xs.length hi - HT.sIx xs.length 0 lo)
theorem clip_str (v : Option Int) (n d : Nat) : (match v with | none => ((d : Nat) : Int) | some i => (if (1 : Int) > 0 then max 0 (min (if i < 0 then i + (n : Int) else i) (n : Int)) else max (-1) (min (if i < 0 then i + (n : Int) else i) ((n : Int) - 1)))) = ((HT.sIx n d v : Nat) : Int) := by
  cases v with
  | none => rfl
  | some i =>
    show (if (1 : Int) > 0 then max 0 (min (if i < 0 then i + (n : Int) else i) (n : Int)) else _) = (((if i < 0 then (i + (n : Int)).toNat else min i.toNat n) : Nat) : Int)
    rw [if_pos (by decide)]
    by_cases h : i < 0
    · rw [if_pos h, if_pos h]; omega
    · rw [if_neg h, if_neg h]; omega
theorem sIx_le (n d : Nat) (v : Option Int) (h : d ≤ n) : HT.sIx n d v ≤ n := by
  cases v with
  | none => exact h
  | some i =>
    show (if i < 0 then (i + (n : Int)).toNat else min i.toNat n) ≤ n
    split <;> omega
theorem slice_txt (l : List Nat) (lo hi : Option Int) : Txt.slice (txt l) lo hi = txt (cutL l lo hi) := by
  have e : strSliceIndices lo hi 1 (txt l).length = (List.range (HT.sIx l.length l.length hi - HT.sIx l.length 0 lo)).map (HT.sIx l.length 0 lo + ·) := by
    rw [txt_len]
    unfold strSliceIndices
    simp only [if_pos (show (1 : Int) > 0 by decide)]
    have e1 := clip_str lo l.length 0
    have e2 := clip_str hi l.length l.length
    simp only [if_pos (show (1 : Int) > 0 by decide)] at e1 e2
    have e1' : ((0 : Nat) : Int) = 0 := rfl
    rw [e1'] at e1
    have key : ∀ a b a' b' : Int, a = a' → b = b' → sliceRange a b 1 = sliceRange a' b' 1 := fun a b a' b' h1 h2 => by rw [h1, h2]
    exact Eq.trans (key _ _ _ _ e1 e2) (sliceRange_one _ _)
  unfold Txt.slice
  rw [e]
  have e3 : (((List.range (HT.sIx l.length l.length hi - HT.sIx l.length 0 lo)).map (HT.sIx l.length 0 lo + ·)).filterMap ((txt l).cps[·]?)) = cutL l lo hi := by
    rw [pick_run, codes_txt]; rfl
  rw [e3]
  split
  · rename_i hc
    have hc' : HT.sIx l.length l.length hi - HT.sIx l.length 0 lo = l.length := by
      rw [txt_len] at hc
      simpa using hc
    have h1 := sIx_le l.length l.length hi (Nat.le_refl _)
    have h0 : HT.sIx l.length 0 lo = 0 ∨ l.length = 0 := by omega
    unfold cutL
    rw [hc']
    rcases h0 with h0 | h0
    · rw [h0]; simp
    · have : l = [] := List.length_eq_zero_iff.mp h0
      subst this; simp
  · rfl

section
variable {X : Cx}
def rSlS : V → Option Int → Option Int → Hp → VK → Prop := fun x lo hi H Q => ∃ l, x = .str (txt l) ∧ l.length ≤ sizeLine ∧ Q (.str (txt (cutL l lo hi))) H
theorem isSlice_of {h : Heap} {sl : Addr} {vl vu : Value} {lo hi : Option Int} (hs : h.IsSliceOf sl vl vu .none) (pl : IsPart vl lo) (pu : IsPart vu hi) :
    ∃ (l u : Option (Int × Tok)), h.IsSlice sl l u none ∧ l.map (·.1) = lo ∧ u.map (·.1) = hi := by
  obtain ⟨o, ho, hc, hd⟩ := hs
  cases pl with
  | none =>
    cases pu with
    | none => exact ⟨none, none, ⟨o, ho, hc, hd⟩, rfl, rfl⟩
    | int j u => exact ⟨none, some (j, u), ⟨o, ho, hc, hd⟩, rfl, rfl⟩
  | int i t =>
    cases pu with
    | none => exact ⟨some (i, t), none, ⟨o, ho, hc, hd⟩, rfl, rfl⟩
    | int j u => exact ⟨some (i, t), some (j, u), ⟨o, ho, hc, hd⟩, rfl, rfl⟩
theorem sl_str : SlR X rSlS := by
  intro pins s σ H x v vl vu lo hi sl Q I rx hs pl pu h
  obtain ⟨l, rfl, hz, q⟩ := h
  obtain ⟨t, rfl⟩ := rx
  obtain ⟨l', u', hS, rfl, rfl⟩ := isSlice_of hs pl pu
  refine ⟨"str", _, F.slot_str_getitem.lookup, typeIs_str _ _ _, wpAny_getItem_str_slice hS rfl ?_⟩
  have key : ∀ t' k, EP X pins σ Q (.str (Txt.slice (txt l) (l'.map (·.1)) (u'.map (·.1))) t') { s with toks := k } := fun t' k => ⟨.str (txt (cutL l _ _)), H, I.tok _, ⟨t', by rw [slice_txt]⟩, q⟩
  have e : sliceMade (txt l) t l' u' none = (if ((1 : Int) == 1 && (strSliceIndices (l'.map (·.1)) (u'.map (·.1)) 1 (txt l).length).length == (txt l).length) = true then Made.val (.str (txt l) t) else Made.str ⟨((strSliceIndices (l'.map (·.1)) (u'.map (·.1)) 1 (txt l).length).filterMap ((txt l).cps[·]?)).toArray⟩) := rfl
  rw [e]
  exact post_val_or_str ⟨Nat.le_trans (Txt.slice_le _ _ _) (by rw [txt_len]; exact hz), key⟩

/-! ### methods of a text -/
/-- the codes at the end that go -/
def rstripL (p : Nat → Bool) (l : List Nat) : List Nat := (l.reverse.dropWhile p).reverse
theorem rstrip_eq (p : Nat → Bool) (l : List Nat) : Txt.stripBy p false true (txt l) = txt (rstripL p l) := by
  have hlen : (l.reverse.takeWhile p).length + (l.reverse.dropWhile p).length = l.length := by
    have := congrArg List.length (List.takeWhile_append_dropWhile (p := p) (l := l.reverse))
    rw [List.length_append, List.length_reverse] at this
    exact this
  have hpre : l.take (l.length - (l.reverse.takeWhile p).length) = rstripL p l := by
    have e : l = rstripL p l ++ (l.reverse.takeWhile p).reverse := by
      have := congrArg List.reverse (List.takeWhile_append_dropWhile (p := p) (l := l.reverse))
      rw [List.reverse_append, List.reverse_reverse] at this
      exact this.symm
    have hl : (rstripL p l).length = l.length - (l.reverse.takeWhile p).length := by unfold rstripL; rw [List.length_reverse]; omega
    have h := List.take_left (l₁ := rstripL p l) (l₂ := (l.reverse.takeWhile p).reverse)
    rw [← e, hl] at h
    exact h
  unfold Txt.stripBy stripSame stripped stripLo stripHi
  simp only [Bool.false_eq_true, if_false, if_true, codes_txt, List.drop_zero, txt_len]
  have e2 : strSub (txt l) 0 (l.length - (l.reverse.takeWhile p).length) = txt (rstripL p l) := by
    rw [← hpre]
    simp [strSub, txt, List.extract_eq_take_drop]
  split
  · rename_i hc
    have hc' : l.length - (l.reverse.takeWhile p).length = l.length := by simpa using hc
    rw [← hpre, hc', List.take_length]
  · exact e2
def rRstrip : V → List V → Hp → VK → Prop := fun x vs H Q => ∃ l m, x = .str (txt l) ∧ vs = [.str (txt m)] ∧ l.length ≤ sizeLine ∧ Q (.str (txt (rstripL (fun c => m.contains c) l))) H
theorem mt_rstrip : MtR X "str.rstrip" rRstrip := by
  intro pins s σ H x vs v us Q I rx rv h
  obtain ⟨l, m, rfl, rfl, hz, q⟩ := h
  obtain ⟨t, rfl⟩ := rx
  obtain ⟨u, rfl, t', rfl⟩ := rv.one
  refine call_gives F.slot_str_rstrip (typeIs_str _ _ _) F.entry_str_rstrip (F.args_str_rstrip_2 _ _) (gives_str_rstrip_chars _ _ t t') ?_
  refine post_val_or_made (fun _ => fits_stripped _ _ _ (by rw [txt_len]; exact hz)) fun t' k => ⟨.str (txt (rstripL (fun c => m.contains c) l)), H, I.tok _, ⟨t', ?_⟩, q⟩
  have e : (txt m).cps.contains = fun c => m.contains c := by funext c; simp [txt]
  show Value.str (Txt.stripBy (txt m).cps.contains false true (txt l)) t' = _
  rw [e, rstrip_eq]
theorem op_addS : OpR X (binaryOp .Add) (fun x y H Q => ∃ i j, x = .str (txt i) ∧ y = .str (txt j) ∧ i.length + j.length ≤ sizeLine ∧ Q (.str (txt (i ++ j))) H) := by
  intro pins s σ H x y v u Q I rx ry h
  obtain ⟨i, j, rfl, rfl, hz, q⟩ := h
  exact op_add_str pins s σ H _ _ v u Q I rx ry ⟨_, _, rfl, rfl, by rw [txt_len, txt_len]; exact hz, by rw [txt_app]; exact q⟩
theorem ix_strL : IxR X (fun x y H Q => ∃ (l : List Nat) (i : Nat) (c : Nat), x = .str (txt l) ∧ y = .int i ∧ l.length ≤ sizeLine ∧ l[i]? = some c ∧ Q (.str (txt [c])) H) := by
  intro pins s σ H value slice x y v u Q I rx ry h hs
  obtain ⟨l, i, c, rfl, rfl, hz, e, q⟩ := h
  exact ix_str pins s σ H value slice _ _ v u Q I rx ry ⟨_, _, c, rfl, rfl, by rw [txt_len]; exact hz, by rw [codes_txt]; exact atI_nat e, q⟩ hs
theorem call_lenS : CallR X (.builtin "len") (fun xs H Q => ∃ z, xs = [.str (txt z)] ∧ z.length ≤ sizeLine ∧ Q (.int z.length) H) := by
  intro pins s σ H xs us Q I r h
  obtain ⟨z, rfl, hz, q⟩ := h
  exact call_len_str pins s σ H _ us Q I r ⟨_, rfl, by rw [txt_len]; exact hz, by rw [txt_len]; exact q⟩
end
end L2

set_option Elab.async false
set_option linter.all false
set_option maxRecDepth 100000
namespace L2
open PySem PySem.Spec PyProof.Rows PySem.Builtin.Str

/-! ### join -/
def joinL (sep : List Nat) : List (List Nat) → List Nat
  | [] => []
  | y :: r => r.foldl (fun acc p => acc ++ sep ++ p) y
theorem foldl_cps (sep : List Nat) : ∀ (r : List (List Nat)) (y : List Nat), ((r.map txt).foldl (fun acc p => acc ++ (txt sep).cps ++ p.cps) y.toArray) = (r.foldl (fun acc p => acc ++ sep ++ p) y).toArray
  | [], y => rfl
  | a :: r, y => by
    rw [List.map_cons, List.foldl_cons, List.foldl_cons, ← foldl_cps sep r (y ++ sep ++ a)]
    congr 1
    simp [txt]
theorem join_txt (sep : List Nat) (ys : List (List Nat)) : Txt.join (txt sep) (ys.map txt) = txt (joinL sep ys) := by
  cases ys with
  | nil => rfl
  | cons y r =>
    show (⟨_⟩ : Str) = _
    have := foldl_cps sep r y
    show (⟨(((y :: r).map txt).drop 1).foldl (fun acc p => acc ++ (txt sep).cps ++ p.cps) (((y :: r).map txt).headD Str.empty).cps⟩ : Str) = _
    simp only [List.map_cons, List.drop_one, List.tail_cons, List.headD_cons]
    have e : (txt y).cps = y.toArray := rfl
    rw [e, this]; rfl
theorem foldl_nilsep : ∀ (r : List (List Nat)) (y : List Nat), r.foldl (fun acc p => acc ++ [] ++ p) y = y ++ r.flatten
  | [], y => by simp
  | a :: r, y => by rw [List.foldl_cons, foldl_nilsep r]; simp
theorem joinL_nil (ys : List (List Nat)) : joinL [] ys = ys.flatten := by
  cases ys with
  | nil => rfl
  | cons y r => show r.foldl (fun acc p => acc ++ [] ++ p) y = _; rw [foldl_nilsep]; rfl
theorem strsAre_of : ∀ {ys : List Str} {us : List Value}, Vals (ys.map V.str) us → StrsAre us ys
  | [], _, .nil => .nil
  | y :: ys, _, .cons ⟨t, e⟩ r => by subst e; exact .cons y t (strsAre_of r)
theorem vals_strs : ∀ {us : List Value} {ys : List Str}, StrsAre us ys → Vals (ys.map V.str) us
  | _, _, .nil => .nil
  | _, _, .cons y t r => .cons ⟨t, rfl⟩ (vals_strs r)
def strV (l : List Nat) : V := .str (txt l)
theorem map_strV (ys : List (List Nat)) : ys.map strV = (ys.map txt).map V.str := by rw [List.map_map]; rfl
section
variable {X : Cx}
def rJoin (K : PySem.W.Frag) : V → List V → Hp → VK → Prop := fun x vs H Q => ∃ sep p ys, x = .str (txt sep) ∧ vs = [.ref p] ∧ SqL K H p (ys.map strV) ∧ (ys.map (·.length)).sum + ys.length * sep.length ≤ 16777216 ∧ Q (.str (txt (joinL sep ys))) H
theorem mt_join : MtR X "str.join" (rJoin X.K) := by
  intro pins s σ H x vs v us Q I rx rv h
  obtain ⟨sep, p, ys, rfl, rfl, hx, hz, q⟩ := h
  obtain ⟨t, rfl⟩ := rx
  obtain ⟨u, rfl, ru⟩ := rv.one
  cases ru
  obtain ⟨its, r, pl, hl⟩ := I.list hx
  rw [map_strV] at r
  refine join_list pl.isList (ys := ys.map txt) (by simpa using strsAre_of r) ?_ fun t' k => ⟨.str (txt (joinL sep ys)), H, I.tok _, ⟨t', by rw [join_txt]⟩, q⟩
  rw [List.map_map, List.length_map, txt_len]
  have : ((fun x => x.length) ∘ txt : List Nat → Nat) = fun l => l.length := by funext l; exact txt_len l
  rw [this]; exact hz

/-! ### the signs of a text -/
/-! ### list(text), sorted, ==, all -/
/-- a list of texts, sorted -/
theorem ltCps_txt (a b : List Nat) : ltCps a b = decide (a < b) := by
  first | exact ltCps_eq a b | (rw [ltCps_eq])
theorem rising_pw : ∀ (r : List (List Nat)) (p : List Nat), risingS (txt p) (r.map txt) = true → (p :: r).Pairwise (· ≤ ·)
  | [], p, _ => List.pairwise_singleton _ _
  | x :: r, p, h => by
    rw [List.map_cons] at h
    unfold risingS at h
    rw [Bool.and_eq_true, codes_txt, codes_txt, ltCps_txt] at h
    have h1 : p ≤ x := by
      have := h.1
      simp only [Bool.not_eq_true', decide_eq_false_iff_not] at this
      exact List.not_lt.mp this
    have ih := rising_pw r x h.2
    refine List.pairwise_cons.mpr ⟨fun y hy => ?_, ih⟩
    rcases List.mem_cons.mp hy with e | hy
    · rw [e]; exact h1
    · exact List.le_trans h1 ((List.pairwise_cons.mp ih).1 y hy)
theorem sortedS_pw (l : List (List Nat)) (h : sortedS (l.map txt) = true) : l.Pairwise (· ≤ ·) := by
  cases l with
  | nil => exact .nil
  | cons x r => exact rising_pw r x h
theorem call_sortedS : CallR X (.builtin "sorted") (fun xs H Q => ∃ p, ∃ ys : List (List Nat), xs = [.ref p] ∧ SqL X.K H p (ys.map strV) ∧ ys.length < 64 ∧ ∀ l, ∀ zs : List (List Nat), H l = none → zs.Perm ys → zs.Pairwise (· ≤ ·) → Q (.ref l) (upd H l (.lst (zs.map strV)))) := by
  intro pins s σ H xs us Q I r h
  obtain ⟨p, ys, rfl, hx, hz, q⟩ := h
  obtain ⟨u, rfl, ru⟩ := vals1 r
  cases ru
  obtain ⟨its, rv, pl, hl⟩ := I.list hx
  have hlen := rv.length
  rw [map_strV] at rv
  refine sorted_strs pl.isList (strsAre_of rv) (by rw [← hlen, List.length_map]; exact hz) fun out ss' a1 a2 a3 => ?_
  obtain ⟨e, he⟩ := sortedAll_at s.heap its out
  have ez : ss' = (ss'.map fun x => x.cps.toList).map txt := by
    rw [List.map_map]
    have : (txt ∘ fun (x : Str) => x.cps.toList) = id := by funext x; exact txt_codes x
    rw [this, List.map_id]
  have hp : (ss'.map fun x => x.cps.toList).Perm ys := by
    have := a2.map (fun x : Str => x.cps.toList)
    rw [List.map_map] at this
    have e2 : ((fun x : Str => x.cps.toList) ∘ txt) = id := by funext l; exact codes_txt l
    rw [e2, List.map_id] at this
    exact this
  rw [ez] at a3
  have hv : Vals ((ss'.map fun x => x.cps.toList).map strV) out.toList := by rw [map_strV, ← ez]; exact vals_strs a1
  refine ⟨.ref (s.heap.objs.size + 1), _, I.laid (t' := s.toks) (a := s.heap.objs.size + 1) (o := .lst ((ss'.map fun x => x.cps.toList).map strV)) (fun b o q => sortedAll_old q) (Nat.le_succ _) ⟨?_, out.toList, e, hv, by simpa [seqObj] using he⟩, rfl, q _ _ (I.hok.fresh (Nat.le_succ _)) hp (sortedS_pw _ a3)⟩
  have h64 := hp.length_eq
  rw [List.length_map, h64, sizeLine_eq]
  omega
end
end L2

set_option Elab.async false
set_option linter.all false
set_option maxRecDepth 100000
namespace L2
open PySem PySem.Spec PyProof.Rows PySem.Builtin.Str
section
variable {X : Cx}
/-- what the looks at a comprehension's scope say -/
structure CompOk (X : Cx) (scope : Scope) (x : Str) (fs : List (Str × Nat)) : Prop where
  kind : scope.kind = .function
  cell : ∀ y ∈ scope.names, y.2 ≠ .cell
  names : ∀ y ∈ scope.names, y.2 = .local → scope.names.lookup y.1 = some .local
  free : ∀ y ∈ scope.names, y.2 = .free → X.env.kindOf y.1 = some .cell ∨ X.env.kindOf y.1 = some .free
  hx : scope.names.lookup x = some .local
  nd : (x :: fs.map (·.1)).Nodup
  fs : ∀ f ∈ fs, X.N[f.2]? = some f.1 ∧ (X.env.kindOf f.1 = some .cell ∨ X.env.kindOf f.1 = some .free) ∧ scope.names.lookup f.1 = some .free
def compLook (names : List (Str × NameKind)) (outer : List (Str × NameKind)) (N : List Str) (x : Str) (fs : List (Str × Nat)) : Bool :=
  (names.all fun y => y.2 != .cell) && (names.all fun y => y.2 != .local || names.lookup y.1 == some .local) &&
  (names.all fun y => y.2 != .free || outer.lookup y.1 == some .cell || outer.lookup y.1 == some .free) && (names.lookup x == some .local) &&
  decide ((x :: fs.map (·.1)).Nodup) && (fs.all fun f => decide (N[f.2]? = some f.1) && (outer.lookup f.1 == some .cell || outer.lookup f.1 == some .free) && names.lookup f.1 == some .free)
theorem compOk_of {scope : Scope} {x : Str} {fs : List (Str × Nat)} (hk : scope.kind = .function) (h : compLook scope.names X.env.scope.names X.N x fs = true) : CompOk X scope x fs := by
  unfold compLook at h
  simp only [Bool.and_eq_true, List.all_eq_true, decide_eq_true_eq, Bool.or_eq_true, bne_iff_ne, beq_iff_eq] at h
  obtain ⟨⟨⟨⟨⟨h1, h2⟩, h3⟩, h4⟩, h5⟩, h6⟩ := h
  refine ⟨hk, fun y hy => h1 y hy, fun y hy e => ?_, fun y hy e => ?_, h4, h5, fun f hf => ?_⟩
  · rcases h2 y hy with z | z
    · exact absurd e z
    · exact z
  · rcases h3 y hy with (z | z) | z
    · exact absurd e z
    · exact .inl z
    · exact .inr z
  · obtain ⟨⟨a, b⟩, c⟩ := h6 f hf
    exact ⟨a, b, c⟩
theorem pe_compB {elt iter : Expr} {x : Str} {px pos : Pos} {ifs : List Expr} {scope : Scope} (fs : List (Str × Nat)) {wi : TI} {tt : TT} {te : TE} (hc : X.calm = true)
    (hi : PI X (.Name x px) iter wi)
    (hb : ∀ (cl : List (Str × Addr)) (C : Addr) (s₀ : Shared) (H₀ : Hp) (ex : List Addr), PTs (cxComp X scope cl C (x :: fs.map (·.1)) s₀ H₀ ex) ifs tt ∧ PE (cxComp X scope cl C (x :: fs.map (·.1)) s₀ H₀ ex) elt te)
    (hk : scope.kind = .function := by rfl) (hl : compLook scope.names X.env.scope.names X.N x fs = true := by kernel_rfl)
    (hs : ∀ x, foldedSetIterable iter X.env x = pure x := by intro _; rfl) :
    PE X (.ListComp elt [⟨.Name x px, iter, ifs, 0⟩] scope pos) (tComp wi (fs.map (·.2)) tt te) :=
  let O := compOk_of (X := X) hk hl
  pe_comp fs hc O.kind O.cell O.names O.free O.hx O.nd O.fs hi hb hs
/-! ### the forms one uses -/
/-- over a range: Pv by the turn, the items and the heap -/
theorem comp_range {lo : Int} {n : Nat} {σ : St} {fs : List Nat} {tt : TT} {te : TE} {H : Hp} {Q : VK} (Pv : Nat → List V → Hp → Prop) (h0 : Pv 0 [] H) (hl : ∀ i ys H, i ≤ n → Pv i ys H → ys.length ≤ i) (hn : n ≤ sizeLine)
    (hs : ∀ i ys H, i < n → Pv i ys H → ∀ R : List V → Hp → Prop, (∀ ys' H', Pv (i + 1) ys' H' → R ys' H') → tt (some (.int (lo + i)) :: compSt fs σ) H fun b H2 => if b = true then te (some (.int (lo + i)) :: compSt fs σ) H2 fun y H3 => R (ys ++ [y]) H3 else R ys H2)
    (hd : ∀ ys H, Pv n ys H → ∀ p, H p = none → Q (.ref p) (upd H p (.lst ys))) :
    ∃ W : Nat → Nat → List V → Hp → Prop, (∃ m, W 0 m [] H) ∧ ∀ i m ys H, W i m ys H → ys.length ≤ sizeLine ∧
      (((Itr lo n).stop i H ∧ ∀ p, H p = none → Q (.ref p) (upd H p (.lst ys))) ∨
       ((Itr lo n).go i H ∧ ys.length < sizeLine ∧ ∀ x H', (Itr lo n).yld i H x H' → tt (some x :: compSt fs σ) H' fun b H2 => if b = true then te (some x :: compSt fs σ) H2 fun y H3 => ∃ m', m' < m ∧ W (i + 1) m' (ys ++ [y]) H3 else ∃ m', m' < m ∧ W (i + 1) m' ys H2)) := by
  refine ⟨fun i m ys H => m = n - i ∧ i ≤ n ∧ Pv i ys H, ⟨n, by simp, Nat.zero_le _, h0⟩, ?_⟩
  rintro i m ys H ⟨rfl, hi, p⟩
  have hle := hl i ys H hi p
  refine ⟨by omega, ?_⟩
  by_cases hlt : i < n
  · refine .inr ⟨hlt, by omega, fun x H' y => ?_⟩
    obtain ⟨e, y⟩ := y
    subst e y
    exact hs i ys _ hlt p (fun ys' H' => ∃ m', m' < n - i ∧ m' = n - (i + 1) ∧ i + 1 ≤ n ∧ Pv (i + 1) ys' H') fun ys' H' q => ⟨n - (i + 1), by omega, rfl, hlt, q⟩
  · have e : i = n := by omega
    subst e
    exact .inl ⟨Nat.le_refl _, hd ys H p⟩
theorem pe_txt {x : Str} {l : List Nat} {j pos} (h : x = txt l) : PE X (.Constant (.str x) j pos) (tC (.str (txt l))) := by subst h; exact pe_str
end
/-! ### the letters -/
def ABC : List Nat := (List.range 26).map (97 + ·)
theorem small_eq : ("abcdefghijklmnopqrstuvwxyz" : Str) = txt ABC := by decide +kernel
theorem abc_len : ABC.length = 26 := by decide
theorem abc_at {i : Nat} (h : i < 26) : ABC[i]? = some (97 + i) := by
  unfold ABC
  rw [List.getElem?_map, List.getElem?_range h]; rfl
end L2

set_option Elab.async false
set_option linter.all false
set_option maxRecDepth 100000
namespace L2
open PySem PySem.Spec PyProof.Rows

/-! ### the relations by their names -/
abbrev rAddI : R2 := rI0 fun i j => .int (i + j)
abbrev rSubI : R2 := rI0 fun i j => .int (i - j)
abbrev rDivI : R2 := rI CDiv fun i j => .int (i / j)
abbrev rModI : R2 := rI (fun _ j => 0 < j) fun i j => .int (i % j)
abbrev rNegI : V → Hp → VK → Prop := rU fun i => .int (-i)
abbrev rLtI : R2 := rI0 fun i j => .bl (decide (i < j))
abbrev rGtI : R2 := rI0 fun i j => .bl (decide (j < i))
def CMulB (i j : Int) : Prop := CMul i j ∨ (Builtin.Int.intBits i ≤ 2 ^ 20 ∧ Builtin.Int.intBits j ≤ 2 ^ 20)
theorem CMulB.l {i j : Int} (h1 : -(2 ^ 64) < i) (h2 : i < 2 ^ 64) : CMulB i j := .inl (.inl ⟨h1, h2⟩)
theorem CMulB.r {i j : Int} (h1 : -(2 ^ 64) < j) (h2 : j < 2 ^ 64) : CMulB i j := .inl (.inr ⟨h1, h2⟩)
abbrev rMulI : R2 := rI CMulB fun i j => .int (i * j)
abbrev rAddS : R2 := fun x y H Q => ∃ i j, x = .str (txt i) ∧ y = .str (txt j) ∧ i.length + j.length ≤ sizeLine ∧ Q (.str (txt (i ++ j))) H
abbrev rIxStr : R2 := fun x y H Q => ∃ (l : List Nat) (i : Nat) (c : Nat), x = .str (txt l) ∧ y = .int i ∧ l.length ≤ sizeLine ∧ l[i]? = some c ∧ Q (.str (txt [c])) H
abbrev rLenS : List V → Hp → VK → Prop := fun xs H Q => ∃ z, xs = [.str (txt z)] ∧ z.length ≤ sizeLine ∧ Q (.int z.length) H
abbrev rLenL (K : PySem.W.Frag) : List V → Hp → VK → Prop := fun xs H Q => ∃ p ys, xs = [.ref p] ∧ (SqL K H p ys ∨ SqT K H p ys) ∧ Q (.int ys.length) H
abbrev rMin2 : List V → Hp → VK → Prop := fun xs H Q => ∃ i j, xs = [.int i, .int j] ∧ Q (.int (if j < i then j else i)) H
abbrev rListOf (K : PySem.W.Frag) : List V → Hp → VK → Prop := fun xs H Q => ∃ p ys, xs = [.ref p] ∧ (SqL K H p ys ∨ SqT K H p ys) ∧ ∀ l, H l = none → Q (.ref l) (upd H l (.lst ys))
abbrev rSortedS (K : PySem.W.Frag) : List V → Hp → VK → Prop := fun xs H Q => ∃ p, ∃ ys : List (List Nat), xs = [.ref p] ∧ SqL K H p (ys.map strV) ∧ ys.length < 64 ∧ ∀ l, ∀ zs : List (List Nat), H l = none → zs.Perm ys → zs.Pairwise (· ≤ ·) → Q (.ref l) (upd H l (.lst (zs.map strV)))
section
variable {X : Cx}
theorem op_mulB : OpR X (binaryOp .Mult) rMulI := opI fun _ _ _ _ _ _ _ hc q => mul_int q (by
  rcases hc with h | h
  · exact h.ok
  · exact IntMulOk.of_bits h.1 h.2)
/-- a constant text of the module -/
theorem pe_gstr {x y : Str} {l : List Nat} {pos : Pos} (hg : Gl X x) (hm : ∃ t, X.mg x = some (.str y t)) (e : y = txt l) (hd : (x == ("__debug__" : Str)) = false := by decide) : PE X (.Name x pos) (tC (.str (txt l))) := by
  obtain ⟨t, hm⟩ := hm
  subst e
  exact pe_glob hg hm ⟨t, rfl⟩ hd
end

/-! ### lists that stay -/
theorem SqL.up {K : PySem.W.Frag} {H : Hp} {a p : Addr} {xs : List V} {o : HO} (h : SqL K H a xs) (hp : H p = none) : SqL K (upd H p o) a xs := by
  rcases h with (h | ⟨q, h⟩) | h
  · exact .inl (.inl (by rw [upd_ne (ne_of_none h hp)]; exact h))
  · exact .inl (.inr ⟨q, by rw [upd_ne (ne_of_none h hp)]; exact h⟩)
  · exact .inr h
theorem SqL.here {K : PySem.W.Frag} {H : Hp} {p : Addr} {xs : List V} : SqL K (upd H p (.lst xs)) p xs := .inl (.inl upd_same)
theorem SqT.here {K : PySem.W.Frag} {H : Hp} {p : Addr} {xs : List V} : SqT K (upd H p (.tup xs)) p xs := .inl (.inl upd_same)
theorem Same.new {H H' : Hp} {p : Addr} {o : HO} (s : Same H H') (hp : H' p = none) : Same H (upd H' p o) := fun b q e => by
  have := s b q e
  rw [upd_ne (ne_of_none this hp)]; exact this
theorem Same.up (H : Hp) {p : Addr} {o : HO} (hp : H p = none) : Same H (upd H p o) := (Same.refl H).new hp
/-- an index into a written list -/
theorem atI_int {α : Type} {xs : List α} {i : Int} {v : α} (h0 : 0 ≤ i) (h : xs[i.toNat]? = some v) : atI xs i = some v := by
  obtain ⟨n, rfl⟩ := Int.eq_ofNat_of_zero_le h0
  exact atI_nat (by simpa using h)
end L2

set_option Elab.async false
set_option linter.all false
set_option maxRecDepth 100000
namespace L2
open PySem PySem.Spec PyProof.Rows

/-! ### loops in short -/
/-- for x in range(j) -/
theorem for_r1 {ta : TA} {g : TG} {tb : TS} {D : Ends} {σ : St} {H : Hp} {j : Int} (ha : ∀ Q : List V → Hp → Prop, Q [.int j] H → ta σ H Q) (hlo : -(2 ^ 62) ≤ j) (hhi : j < 2 ^ 62)
    (Pv : Nat → St → Hp → Prop) (h0 : Pv 0 σ H) (hs : ∀ (i : Nat) σ H, (i : Int) < j → Pv i σ H → g (.int i) σ H fun σ2 H2 => tb { D with nx := Pv (i + 1), ct := Pv (i + 1), bk := D.nx } σ2 H2)
    (hd : ∀ σ H, Pv j.toNat σ H → D.nx σ H) : tFor (iRng1 ta) g tb D σ H := by
  refine ha _ ⟨j, rfl, hlo, hhi, ?_⟩
  refine for_range (lo := 0) (n := j.toNat) Pv h0 (fun i σ H hi p => ?_) hd
  rw [Int.zero_add]
  exact hs i σ H (by omega) p
/-- for x in xs, the list at a -/
theorem for_l {K : PySem.W.Frag} {tl : TE} {g : TG} {tb : TS} {D : Ends} {σ : St} {H : Hp} {a : Addr} {xs : List V} (ha : ∀ Q : VK, Q (.ref a) H → tl σ H Q) (hx : SqL K H a xs)
    (Pv : Nat → St → Hp → Prop) (h0 : Pv 0 σ H) (hl : ∀ i σ H, i ≤ xs.length → Pv i σ H → SqL K H a xs)
    (hs : ∀ i x σ H, xs[i]? = some x → Pv i σ H → g x σ H fun σ2 H2 => tb { D with nx := Pv (i + 1), ct := Pv (i + 1), bk := D.nx } σ2 H2) (hd : ∀ σ H, Pv xs.length σ H → D.nx σ H) :
    tFor (iList K tl) g tb D σ H := ha _ ⟨a, rfl, ⟨xs, hx⟩, for_list (K := K) Pv h0 hl hs hd⟩
theorem comp_r1 {ta : TA} {fs : List Nat} {tt : TT} {te : TE} {σ : St} {H : Hp} {Q : VK} {j : Int} (ha : ∀ Q : List V → Hp → Prop, Q [.int j] H → ta σ H Q) (hlo : -(2 ^ 62) ≤ j) (hhi : j < 2 ^ 62) (hn : j.toNat ≤ sizeLine)
    (Pv : Nat → List V → Hp → Prop) (h0 : Pv 0 [] H) (hl : ∀ i ys H, i ≤ j.toNat → Pv i ys H → ys.length ≤ i)
    (hs : ∀ (i : Nat) ys H, (i : Int) < j → Pv i ys H → ∀ R : List V → Hp → Prop, (∀ ys' H', Pv (i + 1) ys' H' → R ys' H') → tt (some (.int i) :: compSt fs σ) H fun b H2 => if b = true then te (some (.int i) :: compSt fs σ) H2 fun y H3 => R (ys ++ [y]) H3 else R ys H2)
    (hd : ∀ ys H, Pv j.toNat ys H → ∀ p, H p = none → Q (.ref p) (upd H p (.lst ys))) : tComp (iRng1 ta) fs tt te σ H Q := by
  refine ha _ ⟨j, rfl, hlo, hhi, ?_⟩
  refine comp_range (lo := 0) (n := j.toNat) Pv h0 hl hn (fun i ys H hi p => ?_) hd
  rw [Int.zero_add]
  exact hs i ys H (by omega) p
end L2

set_option Elab.async false
set_option linter.all false
set_option maxRecDepth 100000
namespace L2
open PySem PySem.Spec PyProof.Rows

/-! ### steps of a reading that want a fact -/
theorem lenL_go {K : PySem.W.Frag} {H : Hp} {a : Addr} {xs : List V} {Q : VK} (hS : SqL K H a xs) (q : Q (.int xs.length) H) : rLenL K [.ref a] H Q := ⟨a, xs, rfl, .inl hS, q⟩
theorem lenI_go {K : PySem.W.Frag} {H : Hp} {a : Addr} {ns : List Int} {Q : VK} (hS : SqL K H a (ns.map V.int)) (q : Q (.int ns.length) H) : rLenL K [.ref a] H Q := ⟨a, _, rfl, .inl hS, by rw [List.length_map]; exact q⟩
theorem lenS_go {H : Hp} {l : List Nat} {Q : VK} (hz : l.length ≤ 100000) (q : Q (.int l.length) H) : rLenS [.str (txt l)] H Q := ⟨l, rfl, Nat.le_trans hz (by decide), q⟩
/-- an item of a list of ints, wherever -/
theorem ixI_go {K : PySem.W.Frag} {H : Hp} {a : Addr} {ns : List Int} {i : Int} {Q : VK} (hS : SqL K H a (ns.map V.int)) (h0 : 0 ≤ i) (h1 : i < ns.length) (q : ∀ z, z ∈ ns → ns[i.toNat]? = some z → Q (.int z) H) : rIxL K (.ref a) (.int i) H Q := by
  obtain ⟨n, rfl⟩ := Int.eq_ofNat_of_zero_le h0
  have hn : n < ns.length := by omega
  have e : ns[n]? = some ns[n] := List.getElem?_eq_getElem hn
  exact ⟨a, _, (n : Int), .int ns[n], rfl, rfl, hS, atI_nat (by rw [List.getElem?_map, e]; rfl), q _ (List.getElem_mem hn) (by simpa using e)⟩
/-- an item of any list -/
theorem ixL_go {K : PySem.W.Frag} {H : Hp} {a : Addr} {xs : List V} {i : Int} {v : V} {Q : VK} (hS : SqL K H a xs) (h0 : 0 ≤ i) (h : xs[i.toNat]? = some v) (q : Q v H) : rIxL K (.ref a) (.int i) H Q :=
  ⟨a, xs, i, v, rfl, rfl, hS, atI_int h0 h, q⟩
/-- a sign of a text -/
theorem ixS_go {H : Hp} {l : List Nat} {i : Int} {c : Nat} {Q : VK} (hz : l.length ≤ 100000) (h0 : 0 ≤ i) (h : l[i.toNat]? = some c) (q : Q (.str (txt [c])) H) : rIxStr (.str (txt l)) (.int i) H Q := by
  obtain ⟨n, rfl⟩ := Int.eq_ofNat_of_zero_le h0
  exact ⟨l, n, c, rfl, rfl, Nat.le_trans hz (by decide), by simpa using h, q⟩
theorem ixABC_go {H : Hp} {i : Int} {Q : VK} (h0 : 0 ≤ i) (h1 : i < 26) (q : Q (.str (txt [97 + i.toNat])) H) : rIxStr (.str (txt ABC)) (.int i) H Q :=
  ixS_go (by rw [abc_len]; decide) h0 (abc_at (by omega)) q
theorem addS_go {H : Hp} {l m : List Nat} {Q : VK} (hz : l.length + m.length ≤ 100000) (q : Q (.str (txt (l ++ m))) H) : rAddS (.str (txt l)) (.str (txt m)) H Q := ⟨l, m, rfl, rfl, Nat.le_trans hz (by decide), q⟩
theorem mulB_l {i j : Int} (h1 : -18446744073709551616 < i) (h2 : i < 18446744073709551616) : CMulB i j := .l (by omega) (by omega)
theorem mulB_r {i j : Int} (h1 : -18446744073709551616 < j) (h2 : j < 18446744073709551616) : CMulB i j := .r (by omega) (by omega)
theorem cdiv {i j : Int} (h1 : 0 < j) (h2 : j < 1073741824) : CDiv i j := ⟨h1, h2⟩
theorem rstrip_go {H : Hp} {l m : List Nat} {Q : VK} (hz : l.length ≤ 100000) (q : Q (.str (txt (rstripL (fun c => m.contains c) l))) H) : rRstrip (.str (txt l)) [.str (txt m)] H Q := ⟨l, m, rfl, rfl, Nat.le_trans hz (by decide), q⟩
theorem slS_go {H : Hp} {l : List Nat} {lo hi : Option Int} {Q : VK} (hz : l.length ≤ 100000) (q : Q (.str (txt (cutL l lo hi))) H) : rSlS (.str (txt l)) lo hi H Q := ⟨l, rfl, Nat.le_trans hz (by decide), q⟩
theorem cutL_to {l : List Nat} {k : Int} (h0 : 0 ≤ k) (h1 : k ≤ l.length) : cutL l none (some k) = l.take k.toNat := by
  obtain ⟨n, rfl⟩ := Int.eq_ofNat_of_zero_le h0
  unfold cutL
  rw [HT.sIx_none, HT.sIx_nat, List.drop_zero, Nat.sub_zero]
  congr 1; simp; omega
/-- a loop whose source is reckoned first -/
theorem for_by {wi : TI} {g : TG} {tb : TS} {D : Ends} {σ : St} {H : Hp} (h : ∀ R : It → Hp → Prop, (∀ J H1, R J H1 = ∃ W : Nat → Nat → St → Hp → Prop, (∃ m, W 0 m σ H1) ∧ ∀ i m σ H, W i m σ H →
  (J.stop i H ∧ D.nx σ H) ∨ (J.go i H ∧ ∃ N : St → Hp → Prop, (∀ σ' H', N σ' H' → ∃ m', m' < m ∧ W (i + 1) m' σ' H') ∧ ∀ x H', J.yld i H x H' → g x σ H' fun σ2 H2 => tb { D with nx := N, ct := N, bk := D.nx } σ2 H2)) → wi σ H R) : tFor wi g tb D σ H := h _ fun _ _ => rfl
/-- a while by its invariant and measure -/
theorem while_of {c : TT} {tb : TS} {D : Ends} {σ : St} {H : Hp} (Pv : Nat → St → Hp → Prop) (m0 : Nat) (h0 : Pv m0 σ H)
    (hs : ∀ m σ H, Pv m σ H → ∀ R : Bool → Hp → Prop, (∀ H1, tb { D with nx := fun σ' H' => ∃ m', m' < m ∧ Pv m' σ' H', ct := fun σ' H' => ∃ m', m' < m ∧ Pv m' σ' H', bk := D.nx } σ H1 → R true H1) → (∀ H1, D.nx σ H1 → R false H1) → c σ H R) : tWhile c tb D σ H := by
  refine ⟨Pv, ⟨m0, h0⟩, fun m σ H p => ?_⟩
  refine hs m σ H p _ (fun H1 h => ?_) (fun H1 h => ?_)
  · exact ⟨_, fun σ' H' h => h, h⟩
  · exact h
end L2

set_option Elab.async false
set_option linter.all false
set_option maxRecDepth 100000
namespace L2
open PySem PySem.Spec PyProof.Rows

/-! ### the judgements as boxes: nothing of them is unfolded while a term is laid; the looks at the text by the kernel alone -/
structure QE (X : Cx) (e : Expr) (t : TE) : Prop where p : PE X e t
structure QT (X : Cx) (e : Expr) (t : TT) : Prop where p : PT X e t
structure QW (X : Cx) (e : Expr) (t : TT) : Prop where p : PW X e t
structure QA (X : Cx) (es : List Expr) (t : TA) : Prop where p : PA X es t
structure QS (X : Cx) (st : Stmt) (t : TS) : Prop where p : PS X st t
structure QSs (X : Cx) (st : List Stmt) (t : TS) : Prop where p : PSs X st t
structure QG (X : Cx) (tg : Expr) (t : TG) : Prop where p : PG X tg t
structure QGs (X : Cx) (ts : List Expr) (t : TGs) : Prop where p : PGs X ts t
structure QI (X : Cx) (tg iter : Expr) (t : TI) : Prop where p : PI X tg iter t
structure QO (X : Cx) (e : Option Expr) (t : TO) : Prop where p : PO X e t
structure QTs (X : Cx) (ifs : List Expr) (t : TT) : Prop where p : PTs X ifs t
section
variable {X : Cx} {e o a b iter tg : Expr} {es : List Expr} {te to ta tb : TE} {t u : TA} {x : Str} {p pos pos' : Pos}
theorem kv (i : Nat) (hN : X.N[i]? = some x := by kernel_rfl) (hv : X.env.scope.names.lookup x = some .local := by kernel_rfl) (hd : (x == ("__debug__" : Str)) = false := by kernel_rfl)
    (hcd : (x == ("__classdict__" : Str)) = false := by kernel_rfl) : QE X (.Name x pos) (tVar i) := ⟨pe_var hN (.inl hv) hd hcd⟩
theorem kvc (i : Nat) (hN : X.N[i]? = some x := by kernel_rfl) (hv : X.env.scope.names.lookup x = some .cell := by kernel_rfl) (hd : (x == ("__debug__" : Str)) = false := by kernel_rfl)
    (hcd : (x == ("__classdict__" : Str)) = false := by kernel_rfl) : QE X (.Name x pos) (tVar i) := ⟨pe_var hN (.inr (.inl hv)) hd hcd⟩
theorem ke_int {i : Int} {j : Nat} : QE X (.Constant (.int i) j pos) (tC (.int i)) := ⟨pe_int⟩
theorem ke_bl {c : Bool} {j : Nat} : QE X (.Constant (.bool c) j pos) (tC (.bl c)) := ⟨pe_bl⟩
theorem ke_non {j : Nat} : QE X (.Constant .none j pos) (tC .non) := ⟨pe_non⟩
theorem ke_txt {y : Str} {l : List Nat} {j : Nat} (h : y = txt l := by kernel_rfl) : QE X (.Constant (.str y) j pos) (tC (.str (txt l))) := ⟨pe_txt h⟩
theorem ka_nil : QA X [] tNil := ⟨pa_nil⟩
theorem ka_cons (ha : QE X e te) (hr : QA X es t) (hs : starEach (e :: es) X.env = (false, eval e X.env) :: starEach es X.env := by kernel_rfl) : QA X (e :: es) (tCons te t) := ⟨pa_cons ha.p hr.p hs⟩
theorem ke_gstr {y : Str} {l : List Nat} (hm : ∃ t, X.mg x = some (.str y t)) (e : y = txt l) (hg : X.env.kindOf x = some .globalImplicit := by kernel_rfl) (hd : (x == ("__debug__" : Str)) = false := by kernel_rfl) : QE X (.Name x pos) (tC (.str (txt l))) := ⟨pe_gstr hg hm e hd⟩
theorem ke_call {CX : CXT} {k : Nat} {f : Addr} {fd : FuncData} {ps : List Str} {sp : Sp} {E : XK} (F : FnOk X.prog X.w X.K X.mg X.base CX k f fd ps sp) (hr : Room k X.A) (hm : X.mg x = some (.ref f)) (hk : PySem.W.keepIn X.K (.ref f) = true) (hb : Binds X.K fd ps []) (hx : Passes CX X E)
    (ha : QA X (e :: es) t) (hg : X.env.kindOf x = some .globalImplicit := by kernel_rfl) (hdb : (x == ("__debug__" : Str)) = false := by kernel_rfl) (he : starEach (e :: es) X.env = (false, eval e X.env) :: starEach es X.env := by kernel_rfl) (hpl : (backTo pos (starEach es X.env)).any (·.1) = false := by kernel_rfl) :
    QE X (.Call (.Name x p) (e :: es) [] pos) (tCall sp [] E t) := ⟨pe_call F hr hg hm hk hb .nil hx ha.p hdb he hpl⟩
theorem ke_callB {id : String} {r : List V → Hp → VK → Prop} (hc : CallR X (.builtin id) r) (hm : X.mg x = none) (hv : bootBuiltins x = some (.builtin id)) (ha : QA X (e :: es) t)
    (hg : X.env.kindOf x = some .globalImplicit := by kernel_rfl) (hn : decide (x = "__name__") = false := by kernel_rfl) (hdb : (x == ("__debug__" : Str)) = false := by kernel_rfl)
    (he : starEach (e :: es) X.env = (false, eval e X.env) :: starEach es X.env := by kernel_rfl) (hpl : (backTo pos (starEach es X.env)).any (·.1) = false := by kernel_rfl) :
    QE X (.Call (.Name x p) (e :: es) [] pos) (tCB r t) := ⟨pe_callB hc hg hm hv ha.p (of_decide_eq_false hn) hdb he hpl⟩
theorem ke_callTy {T : String} {r : List V → Hp → VK → Prop} (hc : CallR X (.type T) r) (hm : X.mg x = none) (hv : bootBuiltins x = some (.type T)) (ha : QA X (e :: es) t)
    (hg : X.env.kindOf x = some .globalImplicit := by kernel_rfl) (hn : decide (x = "__name__") = false := by kernel_rfl) (hdb : (x == ("__debug__" : Str)) = false := by kernel_rfl)
    (he : starEach (e :: es) X.env = (false, eval e X.env) :: starEach es X.env := by kernel_rfl) (hpl : (backTo pos (starEach es X.env)).any (·.1) = false := by kernel_rfl) :
    QE X (.Call (.Name x p) (e :: es) [] pos) (tCB r t) := ⟨pe_callTy hc hg hm hv ha.p (of_decide_eq_false hn) hdb he hpl⟩
theorem ke_op {op : Operator} {r : R2} (ho : OpR X (binaryOp op) r) (ha : QE X a ta) (hb : QE X b tb) : QE X (.BinOp a op b pos) (tOp r ta tb) := ⟨pe_op ho ha.p hb.p⟩
theorem ke_un {op : UnaryOp} {r : V → Hp → VK → Prop} (ho : UnR X (unaryOp op) r) (ha : QE X a ta) : QE X (.UnaryOp op a pos) (tUn r ta) := ⟨pe_un ho ha.p⟩
theorem ke_ifExp {c : Expr} {tc : TT} (hc : QT X c tc) (ha : QE X a ta) (hb : QE X b tb) : QE X (.IfExp c a b pos) (tIf tc ta tb) := ⟨pe_ifExp hc.p ha.p hb.p⟩
theorem ke_lst (h : QA X es t) : QE X (.List es pos) (tLst t) := ⟨pe_lst h.p⟩
theorem ke_tup {x1} (h : QA X es t) : QE X (.Tuple es x1 pos) (tTup t) := ⟨pe_tup h.p⟩
theorem ko_none : QO X none tNoPart := ⟨po_none⟩
theorem ko_some (h : QE X e te) : QO X (some e) (tPart te) := ⟨po_some h.p⟩
theorem ke_slice {p2 : Pos} {lo hi : Option Expr} {tl th : TO} {r : V → Option Int → Option Int → Hp → VK → Prop} (hr : SlR X r) (he : QE X e te) (hl : QO X lo tl) (hu : QO X hi th) : QE X (.Subscript e (.Slice lo hi none p2) pos) (tSl r te tl th) := ⟨pe_slice hr he.p hl.p hu.p⟩
theorem ke_ix {r : R2} (hr : IxR X r) (ha : QE X a ta) (hb : QE X b tb) (hs : ∀ o i, subscripted b false o i = operate [o, i] (getItem o i) := by intro _ _; kernel_rfl) : QE X (.Subscript a b pos) (tOp r ta tb) := ⟨pe_ix hr ha.p hb.p hs⟩
variable {name : Str} {apos cpos : Pos} {T id : String} {r : V → List V → Hp → VK → Prop}
theorem ke_bm0 (pa : PlainAttrs T) (slot : Slot T name id) (hty : typeOf (.builtin id) = pure (.type "method_descriptor")) (hm : MtR X id r) (ho : QE X o to)
    (hbase : attributeBase o name X.env (eval o X.env) = eval o X.env := by kernel_rfl) (hline : (apos.endLine == cpos.line) = true := by kernel_rfl) : QE X (.Call (.Attribute o name apos) [] [] cpos) (tBM0 X.K T r to) := ⟨pe_bm0 pa slot hty hm ho.p hbase hline⟩
theorem ke_bm (pa : PlainAttrs T) (slot : Slot T name id) (hty : typeOf (.builtin id) = pure (.type "method_descriptor")) (hm : MtR X id r) (ho : QE X o to) (ha : QA X (e :: es) t)
    (hbase : attributeBase o name X.env (eval o X.env) = eval o X.env := by kernel_rfl)
    (hfew : ((backTo cpos (starEach (e :: es) X.env)).all (fun x => !x.1) && (backToKw cpos (keywordEach [] X.env)).all (fun x => x.1.isSome)
      && decide ((e :: es).length + ([] : List Keyword).length + (if ([] : List Keyword).isEmpty then 0 else 1) < 30)) = true := by kernel_rfl)
    (hline : (apos.endLine == cpos.line) = true := by kernel_rfl) (hs : starEach (e :: es) X.env = (false, eval e X.env) :: starEach es X.env := by kernel_rfl) (hplain : (backTo cpos (starEach es X.env)).any (·.1) = false := by kernel_rfl) :
    QE X (.Call (.Attribute o name apos) (e :: es) [] cpos) (tBM X.K T r to t) := ⟨pe_bm pa slot hty hm ho.p ha.p hbase hfew hline hs hplain⟩
theorem kt_val (h : QE X e te) (he : ∀ whole, isTrue e X.env whole = (do let v ← whole; standAt e.pos; holding [v] (truthy v)) := by intro _; kernel_rfl) : QT X e (tB te) := ⟨pt_val h.p he⟩
theorem kt_cmp {op : CmpOp} {r : R2} (ho : OpR X (compareOp op) r) (ha : QE X a ta) (hb : QE X b tb) (hm : behindInMarks op b = false := by kernel_rfl) : QT X (.Compare a [op] [b] pos) (tTest (tOp r ta tb)) := ⟨pt_cmpR ho ha.p hb.p hm⟩
theorem ke_cmp {op : CmpOp} {r : R2} (ho : OpR X (compareOp op) r) (ha : QE X a ta) (hb : QE X b tb) (hm : behindInMarks op b = false := by kernel_rfl) : QE X (.Compare a [op] [b] pos) (tOp r ta tb) := ⟨pe_cmpR ho ha.p hb.p hm⟩
variable {tA tB' : TT} {rest : List Expr}
theorem kt_not (ha : QT X a tA) : QT X (.UnaryOp .Not a pos) (tNot tA) := ⟨pt_not ha.p⟩
theorem kw_and1 (ha : QT X a tA) : QW X (.BoolOp .And [a] pos) tA := ⟨pw_and1 ha.p⟩
theorem kw_or1 (ha : QT X a tA) : QW X (.BoolOp .Or [a] pos) tA := ⟨pw_or1 ha.p⟩
theorem kw_and (ha : QT X a tA) (hb : QW X (.BoolOp .And (b :: rest) pos) tB') : QW X (.BoolOp .And (a :: b :: rest) pos) (tAnd tA tB') := ⟨pw_and ha.p hb.p⟩
theorem kw_or (ha : QT X a tA) (hb : QW X (.BoolOp .Or (b :: rest) pos) tB') : QW X (.BoolOp .Or (a :: b :: rest) pos) (tOr tA tB') := ⟨pw_or ha.p hb.p⟩
theorem kt_w (h : QW X e tA) : QT X e tA := ⟨h.p.pt⟩
theorem kts_nil : QTs X [] tYes := ⟨pts_nil⟩
theorem kts_one {c : Expr} {t : TT} (h : QT X c t) : QTs X [c] t := ⟨pts_one h.p⟩
theorem ki_range1 {ta : TA} (hm : X.mg "range" = none) (ha : QA X [a] ta) (hg : X.env.kindOf "range" = some .globalImplicit := by kernel_rfl) (hs : starEach [a] X.env = [(false, eval a X.env)] := by kernel_rfl) : QI X tg (.Call (.Name "range" p) [a] [] pos) (iRng1 ta) := ⟨pi_range1 hg hm ha.p hs⟩
theorem ki_list {tl : TE} (hl : QE X a tl) : QI X tg a (iList X.K tl) := ⟨pi_list hl.p⟩
theorem ke_comp {elt : Expr} {px : Pos} {ifs : List Expr} {scope : Scope} (fs : List (Str × Nat)) {wi : TI} {tt : TT} {te : TE}
    (hi : QI X (.Name x px) iter wi)
    (hb : ∀ (cl : List (Str × Addr)) (C : Addr) (s₀ : Shared) (H₀ : Hp) (ex : List Addr), QTs (cxComp X scope cl C (x :: fs.map (·.1)) s₀ H₀ ex) ifs tt ∧ QE (cxComp X scope cl C (x :: fs.map (·.1)) s₀ H₀ ex) elt te)
    (hc : X.calm = true := by kernel_rfl) (hk : scope.kind = .function := by kernel_rfl) (hl : compLook scope.names X.env.scope.names X.N x fs = true := by kernel_rfl)
    (hs : ∀ x, foldedSetIterable iter X.env x = pure x := by intro _; kernel_rfl) :
    QE X (.ListComp elt [⟨.Name x px, iter, ifs, 0⟩] scope pos) (tComp wi (fs.map (·.2)) tt te) := ⟨pe_compB fs hc hi.p (fun cl C s₀ H₀ ex => ⟨(hb cl C s₀ H₀ ex).1.p, (hb cl C s₀ H₀ ex).2.p⟩) hk hl hs⟩
/-! statements -/
variable {st : Stmt} {sts : List Stmt} {t1 t2 : TS}
theorem kss_nil : QSs X [] tNext := ⟨pss_nil⟩
theorem kss_cons (h1 : QS X st t1) (h2 : QSs X sts t2) : QSs X (st :: sts) (tSeq t1 t2) := ⟨pss_cons h1.p h2.p⟩
theorem kss_one (h1 : QS X st t1) : QSs X [st] t1 := ⟨pss_one h1.p⟩
theorem ks_set {i : Nat} (hN : X.N.Nodup) (he : QE X e te) (hi : X.N[i]? = some x := by kernel_rfl) (hx : X.env.scope.names.lookup x = some .local := by kernel_rfl) (hs : swapsWith e (some (.Name x pos')) pos.line X.env = pure false := by kernel_rfl) :
    QS X (.Assign [.Name x pos'] e pos) (tAsg te (gName i)) := ⟨ps_set hN hi (.inl hx) he.p hs (.inr hx)⟩
theorem ks_setc {i : Nat} (hN : X.N.Nodup) (he : QE X e te) (hi : X.N[i]? = some x := by kernel_rfl) (hx : X.env.scope.names.lookup x = some .cell := by kernel_rfl) (hs : swapsWith e (some (.Name x pos')) pos.line X.env = pure false := by kernel_rfl) (hf : X.fn x = true := by kernel_rfl) :
    QS X (.Assign [.Name x pos'] e pos) (tAsg te (gName i)) := ⟨ps_set hN hi (.inr hx) he.p hs (.inl hf)⟩
theorem ks_expr (he : QE X e te) (hs : swapsWith e none pos.line X.env = pure false := by kernel_rfl) : QS X (.Expr e pos) (tDrop te) := ⟨ps_expr he.p hs⟩
theorem ks_ret (he : QE X e te) : QS X (.Return (some e) pos) (tRet te) := ⟨ps_ret he.p⟩
theorem ks_if {c : Expr} {l1 l2 : List Stmt} {tc : TT} (hc : QT X c tc) (ha : QSs X l1 t1) (hb : QSs X l2 t2) : QS X (.If c l1 l2 pos) (tIfS tc t1 t2) := ⟨ps_if hc.p ha.p hb.p⟩
theorem ks_while {c : Expr} {body : List Stmt} {tc : TT} (hc : QT X c tc) (hb : QSs X body t1) (hp : PassesOwn (model X.prog X.w) X.A X.env X.xe := by exact PassesOwn.never) : QS X (.While c body [] pos) (tWhile tc t1) := ⟨ps_while hp hc.p hb.p⟩
theorem kg_name {i : Nat} (hN : X.N.Nodup) (hi : X.N[i]? = some x := by kernel_rfl) (hx : X.env.scope.names.lookup x = some .local := by kernel_rfl) : QG X (.Name x pos) (gName i) := ⟨pg_name hN hi (.inl hx) (.inr hx)⟩
theorem ks_for {body : List Stmt} {wi : TI} {g : TG} {tb : TS} (hi : QI X tg iter wi) (hg : QG X tg g) (hb : QSs X body tb) (hp : PassesOwn (model X.prog X.w) X.A X.env X.xe := by exact PassesOwn.never) (hc : X.calm = true := by kernel_rfl) (hs : ∀ x, foldedSetIterable iter X.env x = pure x := by intro _; kernel_rfl) : QS X (.For tg iter body [] pos) (tFor wi g tb) := ⟨ps_for hp hc hi.p hg.p hb.p hs⟩
theorem kgs_nil : QGs X [] gNil := ⟨pgs_nil⟩
theorem kgs_cons {t : TG} {u : TGs} (h1 : QG X e t) (h2 : QGs X es u) (hs : (assignEach (e :: es) X.env).map (·.2) = assign e X.env :: (assignEach es X.env).map (·.2) := by kernel_rfl) : QGs X (e :: es) (gCons t u) := ⟨pgs_cons h1.p h2.p hs⟩
theorem kg_tup {k : Nat} {t : TGs} {n : Nat} (h : QGs X es t) (hc : X.calm = true := by kernel_rfl) (hn : (assignEach es X.env).length = n := by kernel_rfl) (hst : (assignEach es X.env).findIdx? (·.1) = none := by kernel_rfl) : QG X (.Tuple es k pos) (gTup X.K n t) := ⟨pg_tup hc h.p hn hst⟩
end
theorem Fun.okQ {P : Program} {w : World} {K : PySem.W.Frag} {mg : Str → Option Value} {base : Heap} {x qual : Str} {st : Stmt} {f : Addr} {fd : FuncData} {N ps : List Str} {k : Nat} {sp : Sp} (F : Fun K x qual st f fd) (S : FnScope N ps (defScope st)) {rd : TS} (len : ∀ vs H Q E, sp vs H Q E → vs.length = ps.length)
    (hb : ∀ (cdv : Value) (A : Around) (outer : List Env) (s : Shared) (H : Hp) (E : XK), Room k (A.deeper (envOfC qual (defScope st) s.heap.objs.size f cdv)) → QSs (cxOf CX0 P w K mg base N qual (defScope st) f cdv A outer s H E).nox (defBody st) rd)
    (hq : ∀ (vs : List V) (H : Hp) (Q : VK) (E : XK), sp vs H Q E → rd { nx := fun _ H' => Q .non H', rt := Q } (start N vs) H) : FnOk P w K mg base CX0 (k + 1) f fd ps sp :=
  F.ok S len fun cdv A outer s H vs Q E hr h => ⟨rd, (hb cdv A outer s H E hr).p, hq vs H Q E h⟩
end L2

set_option Elab.async false
set_option linter.all false
set_option maxRecDepth 100000
namespace L2
open PySem PySem.Spec PyProof.Rows

section
variable {X : Cx}
/-- isinstance(x, T), T a built-in type -/
def isTy (t T : String) : Option Bool := if (Value.type t == Value.type T) = true then some true else if PySem.W.kitMeta T = true then (fastBuiltinMro t).map (·.contains (.type T)) else none
theorem isTy_kit {K : PySem.W.Frag} {t T : String} {b : Bool} (h : isTy t T = some b) : PySem.W.kitOne K (.type t) (.type T) = some b := h
theorem isTy_list_list : isTy "list" "list" = some true := by kernel_rfl
theorem isTy_tuple_tuple : isTy "tuple" "tuple" = some true := by kernel_rfl
def rIsi (K : PySem.W.Frag) (T : String) : V → Hp → VK → Prop := fun x H Q => ∃ t b, TyOf K H x (.type t) ∧ isTy t T = some b ∧ Q (.bl b) H
def tIsi (K : PySem.W.Frag) (T : String) (ta : TE) : TE := fun σ H Q => ta σ H fun x H1 => rIsi K T x H1 Q
theorem ke_isi {e : Expr} {te : TE} {y z : Str} {T : String} {p p2 pos : Pos} (hm : X.mg y = none) (hv : bootBuiltins y = some (.builtin "isinstance")) (hm2 : X.mg z = none) (hv2 : bootBuiltins z = some (.type T)) (he : QE X e te)
    (hg : X.env.kindOf y = some .globalImplicit := by kernel_rfl) (hn : decide (y = "__name__") = false := by kernel_rfl) (hdb : (y == ("__debug__" : Str)) = false := by kernel_rfl)
    (hg2 : X.env.kindOf z = some .globalImplicit := by kernel_rfl) (hn2 : decide (z = "__name__") = false := by kernel_rfl) (hdb2 : (z == ("__debug__" : Str)) = false := by kernel_rfl)
    (hs1 : starEach [e, .Name z p2] X.env = (false, eval e X.env) :: starEach [.Name z p2] X.env := by kernel_rfl) (hs2 : starEach [.Name z p2] X.env = (false, eval (.Name z p2) X.env) :: starEach [] X.env := by kernel_rfl)
    (hpl : (backTo pos (starEach [.Name z p2] X.env)).any (·.1) = false := by kernel_rfl) :
    QE X (.Call (.Name y p) [e, .Name z p2] [] pos) (tIsi X.K T te) := by
  have hR : CallR X (.builtin "isinstance") (fun xs H Q => ∃ x, xs = [x, .ty T] ∧ rIsi X.K T x H Q) := by
    intro pins s σ H xs us Q I r h
    obtain ⟨x, rfl, t, b, ty, hk, q⟩ := h
    obtain ⟨u, w', rfl, ru, rw'⟩ := vals2 r
    obtain rfl : w' = Value.type T := rw'
    exact isinst_ok I ru ty (isTy_kit hk) fun tk => ⟨.bl b, H, I.tok tk, rfl, q⟩
  have hP := pe_callB (x := y) (p := p) (pos := pos) hR hg hm hv (pa_cons he.p (pa_cons (pe_bltn (v := .ty T) hg2 hm2 hv2 rfl (of_decide_eq_false hn2) hdb2) pa_nil hs2) hs1) (of_decide_eq_false hn) hdb hs1 hpl
  refine ⟨fun pins s σ H Q I h => hP pins s σ H Q I ?_⟩
  show te σ H fun x H1 => _
  exact (show (te σ H fun x H1 => rIsi X.K T x H1 Q) → te σ H (fun x H1 => ∃ x', [x, V.ty T] = [x', .ty T] ∧ rIsi X.K T x' H1 Q) from fun q => by
    have e : (fun x H1 => ∃ x', [x, V.ty T] = [x', .ty T] ∧ rIsi X.K T x' H1 Q) = fun x H1 => rIsi X.K T x H1 Q := by
      funext x H1
      refine propext ⟨fun ⟨x', e, q⟩ => ?_, fun q => ⟨x, rfl, q⟩⟩
      cases e; exact q
    rw [e]; exact q) h
theorem isiL_go {K : PySem.W.Frag} {H : Hp} {a : Addr} {xs : List V} {Q : VK} (h : H a = some (.lst xs)) (q : Q (.bl true) H) : rIsi K "list" (.ref a) H Q := ⟨_, _, .lst h, isTy_list_list, q⟩
end
end L2

set_option Elab.async false
set_option linter.all false
set_option maxRecDepth 100000
namespace L2
open PySem PySem.Spec PyProof.Rows

/-! ### an exception behind a call: B is the heap as it stood when it was raised, without the frames that ran; it stays -/
structure UnB (fs : List Addr) (H H' : Hp) (h B h' : Heap) : Prop where
  keep : ∀ b o, h.get? b = some o → H b = none → b ∉ fs → B.get? b = some o
  slot : ∀ b o, h.get? b = some o → H b = none → b ∈ fs → ∃ sl, h'.get? b = some { o with slots := sl }
  free : ∀ b o, h.get? b = some o → H b = none → H' b = none
  there : ∀ b o, h.get? b = some o → b ∉ fs → ∃ o', B.get? b = some o'
  tups : ∀ b xs, H b = some (.tup xs) → H' b = some (.tup xs)
  frzs : ∀ b o u, H b = some (.frz o u) → H' b = some (.frz o u)
  tbls : ∀ b ps, H b = some (.tbl ps) → ∃ more, H' b = some (.tbl (ps ++ more))
section
variable {P : Program} {w : World} {K : PySem.W.Frag} {mg : Str → Option Value} {base : Heap} {N : List Str} {qual : Str} {scope : Scope} {f : Addr} {cd : Value} {A : Around} {outer : List Env} {s : Shared} {H : Hp} {E : XK}

end

/-! ### raise C(e) -/
def tRaise (cls : Value) (E : XK) (ta : TA) : TS := fun _ σ H => ta σ H fun vs H1 => vs.length ≤ 8 ∧ E cls none H1
section
variable {X : Cx}
end
end L2

set_option Elab.async false
set_option linter.all false
set_option maxRecDepth 100000
namespace L2
open PySem PySem.Spec PyProof.Rows

/-! ### an own exception class matches an own class above it -/
/-- the class at C is caught by «except D» -/
structure ExcSub (K : PySem.W.Frag) (C D : Addr) : Prop where
  c : ∃ bmB newId, PySem.W.excIn K C bmB newId = true
  d : ∃ bmB newId, PySem.W.excIn K D bmB newId = true ∧ bmB.contains (.type "BaseException") = true
  s : PySem.W.mroIn K C (.ref D) = some true

/-! ### a call whose exception is taken here -/
section
variable {X : Cx} {e : Expr} {es : List Expr} {t : TA} {x : Str} {p pos : Pos}
end

theorem HOk.untracked {P : Program} {w : World} {H : Hp} {B : Heap} {a : Addr} (hok : HOk P w H B) (hno : B.get? a = none) : H a = none := by
  cases e2 : H a with
  | none => rfl
  | some o =>
    have hlt := hok a o e2
    exfalso
    cases o with
    | lst xs => obtain ⟨_, _, _, _, z⟩ := hlt; rw [hno] at z; cases z
    | tup xs => obtain ⟨_, _, _, z⟩ := hlt; obtain ⟨_, z, _⟩ := z; rw [hno] at z; cases z
    | dK kvs => obtain ⟨_, _, _, _, _, _, _, z, _⟩ := hlt; rw [hno] at z; cases z
    | dT kvs => obtain ⟨_, _, _, _, _, _, _, z, _⟩ := hlt; rw [hno] at z; cases z
    | set S n => obtain ⟨_, _, _, _, z, _⟩ := hlt; rw [hno] at z; cases z
    | ins C dx fs => obtain ⟨_, _, _, z, _⟩ := hlt; rw [hno] at z; cases z
    | own y => obtain ⟨_, z⟩ := hlt; rw [hno] at z; cases z
    | xd fs => obtain ⟨_, ⟨_, _, _, z, _⟩, _⟩ := hlt; rw [hno] at z; cases z
    | rng lo hi => obtain ⟨_, _, _, z⟩ := hlt; rw [hno] at z; cases z
    | frz ob u => obtain ⟨z, _⟩ := hlt; rw [hno] at z; cases z
    | tbl ps => have z : B.get? a = some _ := hlt; rw [hno] at z; cases z
    | met f y => have z : B.get? a = some _ := hlt; rw [hno] at z; cases z
    | ext φ => obtain ⟨_, ⟨_, z⟩, _⟩ := hlt; rw [hno] at z; cases z

/-! ### try: .. except D: .. -/
/-- the context of the suite that takes the exception -/
abbrev Cx.hand (X : Cx) (ea : Addr) : Cx := { X with A := X.A.mark (some (.ref ea)), calm := false, xe := fun _ _ => False }
section
variable {X : Cx} {pins : List (Addr × Obj)} {σ : St} {H : Hp} {s : Shared}
theorem Inv.hand (I : Inv X pins σ H s) (ea : Addr) : Inv (X.hand ea) pins σ H s :=
  ⟨⟨I.ok.mod, I.ok.kind, I.ok.glob, I.ok.blt, I.ok.above, I.ok.inj, I.ok.has, I.ok.cab, fun h => (nomatch (show false = true from h)), I.ok.frames, I.ok.stk, I.ok.exf, I.ok.bs, I.ok.bsz, I.ok.noex, I.ok.exfs, I.ok.funs, I.ok.frf⟩, I.os, I.bare, I.base, I.loc, I.cell, I.free, I.freeC, I.pin, I.hok, I.len⟩
end

section
variable {X : Cx}
end
end L2

set_option Elab.async false
set_option linter.all false
set_option maxRecDepth 100000
namespace L2
open PySem PySem.Spec PyProof.Rows

/-! ### == of data of any depth -/
mutual
inductive Dat (K : PySem.W.Frag) (H : Hp) : V → PyData → Prop where
  | non : Dat K H .non .none
  | bl (b : Bool) : Dat K H (.bl b) (.bool b)
  | int (i : Int) : Dat K H (.int i) (.int i)
  | str (x : Str) : Dat K H (.str x) (.str x)
  | lst {a : Addr} {xs : List V} {ds : List PyData} (h : SqL K H a xs) (t : DatAll K H xs ds) : Dat K H (.ref a) (.list ds)
  | tup {a : Addr} {xs : List V} {ds : List PyData} (h : SqT K H a xs) (t : DatAll K H xs ds) : Dat K H (.ref a) (.tuple ds)
inductive DatAll (K : PySem.W.Frag) (H : Hp) : List V → List PyData → Prop where
  | nil : DatAll K H [] []
  | cons {x : V} {xs : List V} {d : PyData} {ds : List PyData} (h : Dat K H x d) (t : DatAll K H xs ds) : DatAll K H (x :: xs) (d :: ds)
end
section
variable {X : Cx} {pins : List (Addr × Obj)} {σ : St} {H : Hp} {s : Shared}
mutual
theorem Inv.dat (I : Inv X pins σ H s) : ∀ {x : V} {d : PyData} {u : Value}, Dat X.K H x d → RelV x u → ∃ as, Reads s.heap u d as
  | _, _, _, .non, r => by cases (show _ = Value.none from r); exact ⟨_, .none⟩
  | _, _, _, .bl b, r => by cases (show _ = Value.bool b from r); exact ⟨_, .bool b⟩
  | _, _, _, .int i, r => by obtain ⟨t, rfl⟩ := (show ∃ t, _ = Value.int i t from r); exact ⟨_, .int i t⟩
  | _, _, _, .str x, r => by obtain ⟨t, rfl⟩ := (show ∃ t, _ = Value.str x t from r); exact ⟨_, .str x t⟩
  | _, _, _, .lst (a := a) h t, r => by
    cases (show _ = Value.ref a from r)
    obtain ⟨its, rv, ⟨o, n, e, c, _, d⟩, _⟩ := I.list h
    obtain ⟨as, z⟩ := Inv.datAll I t rv
    exact ⟨_, .list e c d (by simpa using z)⟩
  | _, _, _, .tup (a := a) h t, r => by
    cases (show _ = Value.ref a from r)
    obtain ⟨its, rv, ⟨o, e, c, n, d⟩, _⟩ := I.tuple h
    obtain ⟨as, z⟩ := Inv.datAll I t rv
    exact ⟨_, .tuple e c d (by simpa using z)⟩
theorem Inv.datAll (I : Inv X pins σ H s) : ∀ {xs : List V} {ds : List PyData} {us : List Value}, DatAll X.K H xs ds → Vals xs us → ∃ as, ReadsAll s.heap us ds as
  | _, _, _, .nil, .nil => ⟨_, .nil⟩
  | _, _, _, .cons h t, .cons r rr => by
    obtain ⟨as, z⟩ := Inv.dat I h r
    obtain ⟨bs, z'⟩ := Inv.datAll I t rr
    exact ⟨_, .cons z z'⟩
end
end
abbrev rNeD (K : PySem.W.Frag) : R2 := fun x y H Q => ∃ da db, Dat K H x da ∧ Dat K H y db ∧ SeqAt.shaped da = true ∧ SeqAt.shaped db = true ∧ Q (.bl (!PyData.eqv da db)) H
section
variable {X : Cx}
theorem op_neD (hu : X.A.units + 64 < cLine) : OpR X (compareOp .NotEq) (rNeD X.K) := by
  intro pins s σ H x y v u Q I rx ry h
  obtain ⟨da, db, h1, h2, s1, s2, q⟩ := h
  obtain ⟨as, z1⟩ := I.dat h1 rx
  obtain ⟨bs, z2⟩ := I.dat h2 ry
  exact ne_dataH z1 z2 s1 s2 hu ⟨.bl _, H, I, rfl, q⟩
end

/-! ### the boxed rules of exceptions -/
theorem PS.nox {X : Cx} {st : Stmt} {t : TS} (h : PS X.nox st t) : PS X st t := fun pins s σ H D I hw =>
  wpAny_mono (h pins s σ H D (I.wish _) hw) (fun _ _ q => q.unwish) fun _ _ z => z.elim
section
variable {X : Cx} {e : Expr} {es : List Expr} {t : TA} {x : Str} {p pos np cpos hpos : Pos}
end
end L2

set_option Elab.async false
set_option linter.all false
set_option maxRecDepth 100000
namespace L2
open PySem PySem.Spec PyProof.Rows PySem.Builtin.Str
/-! ### a sign, so many times -/
section
variable {X : Cx}
end
end L2

set_option Elab.async false
set_option linter.all false
set_option maxRecDepth 100000
namespace L2
open PySem PySem.Spec PyProof.Rows

/-! ### except D as e -/
section
variable {X : Cx} {pins : List (Addr × Obj)} {σ : St} {H : Hp} {s : Shared}
end

/-! ### isinstance(e, C), e of just this class -/
section
variable {X : Cx}
end
end L2

set_option Elab.async false
set_option linter.all false
set_option maxRecDepth 100000
namespace L2
open PySem PySem.Spec PyProof.Rows

/-! ### min and max of two texts -/
section
variable {prog : Program} {w : World} {A : Around} {E : Value → Shared → Prop} {s : Shared}
end
section
variable {X : Cx}
end
end L2

set_option Elab.async false
set_option linter.all false
set_option maxRecDepth 100000
namespace L2
open PySem PySem.Spec PyProof.Rows

/-! ### range(lo, hi, step), step above 0 -/
section
variable {X : Cx} {tg : Expr}
/-! ### x or y, x a text or None -/
end
end L2

set_option Elab.async false
set_option linter.all false
set_option maxRecDepth 100000
namespace L2
open PySem PySem.Spec PyProof.Rows
variable {X : Cx}
/-! ### n.bit_length() -/
end L2

set_option Elab.async false
set_option linter.all false
set_option maxRecDepth 100000
namespace L2
open PySem PySem.Spec PyProof.Rows
section
variable {X : Cx}
/-! ### list(range(lo, hi, step)), step above 0 -/
end
theorem Same.tup {K : PySem.W.Frag} {H H' : Hp} {a : Addr} {xs : List V} (e : Same H H') (h : SqT K H a xs) : SqT K H' a xs := by
  rcases h with (h | ⟨o, h⟩) | h
  · exact .inl (.inl (e _ _ h))
  · exact .inl (.inr ⟨o, e _ _ h⟩)
  · exact .inr h
/-! ### a step with the rest folded -/
theorem seq_any {A C : TS} {D : Ends} {σ : St} {H : Hp} (h : ∀ c : St → Hp → Prop, (∀ σ' H', C D σ' H' → c σ' H') → A { D with nx := c } σ H) : tSeq A C D σ H := h _ fun _ _ z => z
theorem seq_set {te : TE} {i : Nat} {C : TS} {D : Ends} {σ : St} {H : Hp} (h : ∀ c : V → Hp → Prop, (∀ x H1, C D (σ.set i (some x)) H1 → c x H1) → te σ H c) : tSeq (tAsg te (gName i)) C D σ H := h _ fun _ _ z => z
theorem slTo_go {H : Hp} {l : List Nat} {i : Int} {Q : VK} (hz : l.length ≤ 100000) (h0 : 0 ≤ i) (h1 : i ≤ l.length) (q : Q (.str (txt (l.take i.toNat))) H) : rSlS (.str (txt l)) none (some i) H Q :=
  slS_go hz (by rw [cutL_to h0 (by omega)]; exact q)
/-- [e for x in xs if t], xs the list at a -/
theorem comp_lst {K : PySem.W.Frag} {a : Addr} {xs : List V} {σ : St} {fs : List Nat} {tt : TT} {te : TE} {H : Hp} {Q : VK} (Pv : Nat → List V → Hp → Prop) (h0 : Pv 0 [] H) (hl : ∀ i ys H, i ≤ xs.length → Pv i ys H → SqL K H a xs ∧ ys.length ≤ i) (hn : xs.length ≤ sizeLine)
    (hs : ∀ i x ys H, xs[i]? = some x → Pv i ys H → ∀ R : List V → Hp → Prop, (∀ ys' H', Pv (i + 1) ys' H' → R ys' H') → tt (some x :: compSt fs σ) H fun b H2 => if b = true then te (some x :: compSt fs σ) H2 fun y H3 => R (ys ++ [y]) H3 else R ys H2)
    (hd : ∀ ys H, Pv xs.length ys H → ∀ p, H p = none → Q (.ref p) (upd H p (.lst ys))) :
    ∃ W : Nat → Nat → List V → Hp → Prop, (∃ m, W 0 m [] H) ∧ ∀ i m ys H, W i m ys H → ys.length ≤ sizeLine ∧
      (((Itl K a).stop i H ∧ ∀ p, H p = none → Q (.ref p) (upd H p (.lst ys))) ∨
       ((Itl K a).go i H ∧ ys.length < sizeLine ∧ ∀ x H', (Itl K a).yld i H x H' → tt (some x :: compSt fs σ) H' fun b H2 => if b = true then te (some x :: compSt fs σ) H2 fun y H3 => ∃ m', m' < m ∧ W (i + 1) m' (ys ++ [y]) H3 else ∃ m', m' < m ∧ W (i + 1) m' ys H2)) := by
  refine ⟨fun i m ys H => m = xs.length - i ∧ i ≤ xs.length ∧ Pv i ys H, ⟨xs.length, by simp, Nat.zero_le _, h0⟩, ?_⟩
  rintro i m ys H ⟨rfl, hi, p⟩
  obtain ⟨hq, hle⟩ := hl i ys H hi p
  refine ⟨by omega, ?_⟩
  by_cases hlt : i < xs.length
  · refine .inr ⟨⟨xs, xs[i], hq, by simp [hlt]⟩, by omega, fun x H' y => ?_⟩
    obtain ⟨e, y⟩ := y
    subst e
    exact hs i x ys _ (y xs hq) p (fun ys' H' => ∃ m', m' < xs.length - i ∧ m' = xs.length - (i + 1) ∧ i + 1 ≤ xs.length ∧ Pv (i + 1) ys' H') fun ys' H' q => ⟨xs.length - (i + 1), by omega, rfl, hlt, q⟩
  · have e : i = xs.length := by omega
    subst e
    exact .inl ⟨⟨xs, hq, Nat.le_refl _⟩, hd ys H p⟩
theorem comp_by {wi : TI} {fs : List Nat} {tt : TT} {te : TE} {σ : St} {H : Hp} {Q : VK} (h : ∀ R : It → Hp → Prop, (∀ J H1, R J H1 = ∃ W : Nat → Nat → List V → Hp → Prop, (∃ m, W 0 m [] H1) ∧ ∀ i m ys H, W i m ys H → ys.length ≤ sizeLine ∧
  ((J.stop i H ∧ ∀ p, H p = none → Q (.ref p) (upd H p (.lst ys))) ∨
   (J.go i H ∧ ys.length < sizeLine ∧ ∀ x H', J.yld i H x H' → tt (some x :: compSt fs σ) H' fun b H2 => if b = true then te (some x :: compSt fs σ) H2 fun y H3 => ∃ m', m' < m ∧ W (i + 1) m' (ys ++ [y]) H3 else ∃ m', m' < m ∧ W (i + 1) m' ys H2))) → wi σ H R) : tComp wi fs tt te σ H Q := h _ fun _ _ => rfl
end L2

set_option Elab.async false
set_option linter.all false
set_option maxRecDepth 100000
/-! sorted of a list that rises already, of any length -/
namespace Asc
open PySem PyProof.Rows
section
variable {P : Program} {wd : World} {Ar : Around} {Er : Value → Shared → Prop} {sh : Shared} {b0 : Array Keyed} {kd : KeyKind}
end
end Asc
namespace L2
open PySem PySem.Spec PyProof.Rows
section
variable {X : Cx}
end
end L2

set_option Elab.async false
set_option linter.all false
set_option maxRecDepth 100000
namespace L2
open PySem PySem.Spec PyProof.Rows
/-! ### [e for x, y in it if t] -/
def tComp2 (K : PySem.W.Frag) (wi : TI) (fs : List Nat) (tt : TT) (te : TE) : TE := fun σ H Q => wi σ H fun J H1 => ∃ W : Nat → Nat → List V → Hp → Prop, (∃ m, W 0 m [] H1) ∧ ∀ i m ys H, W i m ys H → ys.length ≤ sizeLine ∧
  ((J.stop i H ∧ ∀ p, H p = none → Q (.ref p) (upd H p (.lst ys))) ∨
   (J.go i H ∧ ys.length < sizeLine ∧ ∀ x H', J.yld i H x H' → ∃ p v0 v1, x = .ref p ∧ SqT K H' p [v0, v1] ∧ tt (some v0 :: some v1 :: compSt fs σ) H' fun b H2 => if b = true then te (some v0 :: some v1 :: compSt fs σ) H2 fun y H3 => ∃ m', m' < m ∧ W (i + 1) m' (ys ++ [y]) H3 else ∃ m', m' < m ∧ W (i + 1) m' ys H2))
def tCompSet2 (K : PySem.W.Frag) (i : Nat) (wi : TI) (fs : List Nat) (tt : TT) (te : TE) : TS := fun D σ H => tComp2 K wi fs tt te σ H fun v H1 => D.nx (σ.set i (some v)) H1
section
variable {X : Cx}
theorem comp_block2 {elt iter : Expr} {x x2 : Str} {px px2 ptg pos : Pos} {kt : Nat} {ifs : List Expr} {scope : Scope} {fs : List (Str × Nat)} {tt : TT} {te : TE}
    {pins : List (Addr × Obj)} {σ : St} {H2 : Hp} {s2 : Shared} {it : Addr} {fp : List Addr} {tn : Nat → Heap → Prop} {J : It} {cl : List (Str × Addr)} {E : Value → Shared → Prop}
    {P : Value → Addr → Result → Shared → Prop}
    (hc : X.calm = true) (hkind : scope.kind = .function) (hcell : ∀ y ∈ scope.names, y.2 ≠ .cell) (hx : scope.names.lookup x = some .local) (hx2 : scope.names.lookup x2 = some .local)
    (hnd : (x :: x2 :: fs.map (·.1)).Nodup) (hfs : ∀ f ∈ fs, X.N[f.2]? = some f.1 ∧ (X.env.kindOf f.1 = some .cell ∨ X.env.kindOf f.1 = some .free) ∧ scope.names.lookup f.1 = some .free)
    (hb : ∀ (cl : List (Str × Addr)) (C : Addr) (s₀ : Shared) (H₀ : Hp) (ex : List Addr), PTs (cxComp X scope cl C (x :: x2 :: fs.map (·.1)) s₀ H₀ ex) ifs tt ∧ PE (cxComp X scope cl C (x :: x2 :: fs.map (·.1)) s₀ H₀ ex) elt te)
    (hcl1 : ∀ y ∈ cl, X.env.cells.lookup y.1 = some y.2) (hcl2 : ∀ y ∈ scope.names, y.2 = .free → ∃ c, (y.1, c) ∈ cl)
    (I2 : Inv X pins σ H2 s2) (T : Turn X.prog X.w X.K (.Tuple [.Name x px, .Name x2 px2] kt ptg) J fp it tn) (st2 : tn 0 s2.heap) (f2 : ∀ b ∈ fp, FpOk X pins H2 b)
    (W : Nat → Nat → List V → Hp → Prop) (Qe : Hp → List V → Prop) (w0 : ∃ m, W 0 m [] H2)
    (turn : ∀ i m ys H, W i m ys H → ys.length ≤ sizeLine ∧
      ((J.stop i H ∧ Qe H ys) ∨
       (J.go i H ∧ ys.length < sizeLine ∧ ∀ x H', J.yld i H x H' → ∃ p v0 v1, x = .ref p ∧ SqT X.K H' p [v0, v1] ∧ tt (some v0 :: some v1 :: compSt (fs.map (·.2)) σ) H' fun b H2 => if b = true then te (some v0 :: some v1 :: compSt (fs.map (·.2)) σ) H2 fun y H3 => ∃ m', m' < m ∧ W (i + 1) m' (ys ++ [y]) H3 else ∃ m', m' < m ∧ W (i + 1) m' ys H2)))
    (hP : ∀ (D C : Addr) (H' : Hp) (s' : Shared) (ys : List V) (its : List Value) (m : Str → Option Value), s2.heap.objs.size ≤ C → s2.heap.get? D = none → s2.heap.get? C = none → D ≠ C → H' D = none → H' C = none → s'.heap.Ns C m → s'.heap.PlainList D its.toArray → Vals ys its → ys.length ≤ sizeLine → Qe H' ys →
      Un (frs X.stack) fp H2 H' s2.heap s'.heap → HOk X.prog X.w H' s'.heap → AllBare s'.gens → s'.os = s2.os → P (.ref D) C (.ok .next) s') :
    wpAny (model X.prog X.w) X.A (newList []) (fun acc s₃ => wpAny (model X.prog X.w) X.A (newFunctionEnv scope X.env.globals cl [] X.env.qual none .none (some X.env)) (fun cenv s₄ =>
      codeAny (model X.prog X.w) X.A (.compStart (.ListComp elt [⟨.Tuple [.Name x px, .Name x2 px2] kt ptg, iter, ifs, 0⟩] scope pos) 0 (.ref it) acc { cenv with scope := relabel scope X.env }) (P acc cenv.locals) s₄) E s₃) E s2 := by
  refine wpAny_newObj_type (wpAny_newFunctionEnv hcell (by intro y hy; simp at hy) (fun h₁ hns₁ hsb₁ => ?_) hkind)
  dsimp only at hns₁ hsb₁ ⊢
  generalize hH2 : s2.heap.push { cls := .type "list", dict := none, data := .seq ([] : List Value).toArray } = HH at hns₁ hsb₁ ⊢
  have hC : HH.objs.size = s2.heap.objs.size + 1 := by rw [← hH2, Heap.size_push]
  generalize eD : s2.heap.objs.size = D at *
  generalize eC : HH.objs.size = C at *
  have hDC : D ≠ C := by rw [hC]; exact Nat.ne_of_lt (Nat.lt_succ_self _)
  have fresh : ∀ a, D ≤ a → s2.heap.get? a = none := fun a ha => Heap.get?_none_of_le (by rw [eD]; exact ha)
  have hD0 : s2.heap.get? D = none := fresh D (Nat.le_refl _)
  have hC0 : s2.heap.get? C = none := fresh C (by rw [hC]; exact Nat.le_succ _)
  have old : ∀ b o, s2.heap.get? b = some o → h₁.get? b = some o := fun b o e => hsb₁.extBut b o (fun z => by rw [z, hC0] at e; cases e) (Heap.get?_push_of_some _ (hH2 ▸ Heap.get?_push_of_some _ e))
  have hacc : h₁.PlainList D #[] := ⟨0, hsb₁.extBut _ _ hDC (Heap.get?_push_of_some _ (hH2 ▸ (eD ▸ Heap.get?_push_size _ rfl)))⟩
  have HD : H2 D = none := I2.hok.fresh (by rw [eD]; exact Nat.le_refl _)
  have HC : H2 C = none := I2.hok.fresh (by rw [eD, hC]; exact Nat.le_succ _)
  -- the block's context
  let Y : Cx := cxComp X scope cl C (x :: x2 :: fs.map (·.1)) s2 H2 fp
  have lk : ∀ y c, cl.lookup y = some c → X.env.cells.lookup y = some c := fun y c e => hcl1 (y, c) (lookup_mem e)
  have yok : Y.Ok := by
    refine ⟨I2.ok.mod, hkind, I2.ok.glob, I2.ok.blt, ?_, fun y z c h1 h2 => I2.ok.inj y z c (lk y c h1) (lk z c h2), fun y hy => ?_, fun _ _ h _ => absurd h Bool.false_ne_true, I2.ok.hd, I2.ok.frames, .inl rfl, fun b hb => ?_, I2.bs, ?_, fun b o e hb => ?_, fun b hb hz => ?_, I2.stack, I2.stkFree⟩
    · show s2.heap.objs.size ≤ C
      rw [eD, hC]; exact Nat.le_succ _
    · have hy' : (relabel scope X.env).names.lookup y = some .cell ∨ (relabel scope X.env).names.lookup y = some .free := hy
      have hm : (y, NameKind.free) ∈ scope.names := by
        rcases hy' with e | e
        · rcases relabel_mem (lookup_mem e) with q | ⟨_, q⟩
          · exact absurd rfl (hcell _ q)
          · exact q
        · rcases relabel_mem (lookup_mem e) with q | ⟨q, _⟩
          · exact q
          · cases q
      obtain ⟨c, q⟩ := hcl2 _ hm rfl
      exact mem_lookup q
    · obtain ⟨f0, f1, f3, f4, f5, f6⟩ := f2 b hb
      refine ⟨fun z => ?_, fun y c e => f5 y c (lk y c e)⟩
      obtain ⟨o, ho, _⟩ := T.obj _ _ st2 b hb
      have z' : b = C := z
      rw [z', hC0] at ho; cases ho
    · exact Nat.le_trans I2.ok.bsz I2.sz
    · obtain ⟨f0, f1, f3, f4, f5, f6⟩ := f2 b hb
      rcases f4 with z | z
      · exact I2.ok.noex b o e z
      · exact absurd (Nat.lt_of_lt_of_le (Heap.lt_size e) (Nat.le_trans I2.ok.bsz z)) (Nat.lt_irrefl _)
    · obtain ⟨f0, f1, f3, f4, f5, f6⟩ := f2 b hb
      rcases List.mem_cons.mp (I2.stkSub b hz) with z | z
      · exact f1 z
      · exact f3 z
  let τ : St := none :: none :: compSt (fs.map (·.2)) σ
  have hτ : τ.length = (x :: x2 :: fs.map (·.1)).length := by simp [τ, compSt]
  obtain ⟨mL, hnL, hlL⟩ := id I2.loc
  have yI : Inv Y [] τ H2 { s2 with heap := h₁, toks := s2.toks + ([] : List (Str × Value)).length } := by
    refine ⟨yok, rfl, I2.bare, Un.kept old, ⟨_, hns₁, fun i y v e1 e2 e3 => ?_⟩, fun y c e => ?_, HC, fun y c e => I2.freeC y c (lk y c e), (fun p hp => nomatch hp), I2.hok.kept old, hτ⟩
    · cases i with
      | zero => simp [τ] at e2
      | succ i0 =>
       cases i0 with
       | zero => simp [τ] at e2
       | succ i =>
        have e1' : (fs.map (·.1))[i]? = some y := e1
        have e2' : (compSt (fs.map (·.2)) σ)[i]? = some (some v) := by simpa [τ] using e2
        rw [List.getElem?_map] at e1'
        cases q : fs[i]? with
        | none => rw [q] at e1'; cases e1'
        | some f =>
          rw [q] at e1'
          have ey : f.1 = y := Option.some.inj e1'
          obtain ⟨g1, g2, g3⟩ := hfs f (List.mem_of_getElem? q)
          have e2'' : (σ[f.2]?).join = some v := by
            unfold compSt at e2'
            rw [List.getElem?_map, List.getElem?_map, q] at e2'
            exact Option.some.inj e2'
          have e2c : σ[f.2]? = some (some v) := by
            cases r : σ[f.2]? with
            | none => rw [r] at e2''; cases e2''
            | some o => rw [r] at e2''; have e2'' : o = some v := e2''; rw [e2'']
          have vis : Vis X.env.scope f.1 := by
            rcases g2 with g | g
            · exact .inr (.inl g)
            · exact .inr (.inr g)
          obtain ⟨u, ru, lu⟩ := hlL f.2 f.1 v g1 e2c vis
          refine ⟨u, ru, ?_⟩
          have lu' : ∃ c, X.env.cells.lookup f.1 = some c ∧ s2.heap.IsCell c (some u) := by
            rcases lu with ⟨k, _⟩ | ⟨_, c, e, z⟩
            · rcases g2 with g | g
              · rw [k] at g; cases g
              · rw [k] at g; cases g
            · exact ⟨c, e, z⟩
          obtain ⟨c, hc1, hc2⟩ := lu'
          obtain ⟨c', hm⟩ := hcl2 _ (lookup_mem g3) rfl
          have hm' := hcl1 _ hm
          obtain ⟨c2, hl2⟩ := mem_lookup hm
          have := lk _ _ hl2
          rw [hc1] at this; cases this
          obtain ⟨oc, ho, hdt⟩ := hc2
          refine .inr ⟨?_, c, by rw [← ey]; exact hl2, oc, old c oc ho, hdt⟩
          rw [← ey]
          exact lookup_relabel_free g3
    · obtain ⟨v, oc, ho, hdt⟩ := I2.cell y c (lk y c e)
      exact ⟨v, oc, old c oc ho, hdt⟩
  have hx' : Y.env.scope.names.lookup x = some .local := lookup_relabel_local hx
  have hx2' : Y.env.scope.names.lookup x2 = some .local := lookup_relabel_local hx2
  have fpD : ∀ b ∈ fp, b ≠ D := fun b hb z => by
    obtain ⟨o, ho, _⟩ := T.obj _ _ st2 b hb
    rw [z, hD0] at ho; cases ho
  have stD : D ∉ frs X.stack := fun hz => by
    rcases List.mem_cons.mp (I2.stkSub D hz) with z | z
    · have := I2.lt; rw [eD, ← z] at this; exact absurd this (Nat.lt_irrefl _)
    · exact I2.nofs (by rw [eD]; exact Nat.le_refl _) z
  have cellD : ∀ y c, cl.lookup y = some c → c ≠ D := fun y c e z => by
    obtain ⟨v, oc, ho, _⟩ := I2.cell y c (lk y c e)
    rw [z, hD0] at ho; cases ho
  have stat : ∀ {H' : Hp} {oD : Obj}, (∀ b ∈ fp, H' b = none) → ∀ b ∈ fp, FpOk Y [(D, oD)] H' b := fun hn b hb => by
    refine ⟨hn b hb, (yok.exf b hb).1, yok.exfs b hb, .inl hb, (yok.exf b hb).2, fun p hp z => ?_⟩
    have hp' : p ∈ [(D, _)] := hp
    rw [List.mem_singleton.mp hp'] at z
    exact fpD b hb z.symm
  obtain ⟨m0, w0⟩ := w0
  have loop : ∀ s₃ : Shared, s₃ = { s2 with heap := h₁, toks := s2.toks + ([] : List (Str × Value)).length } →
      codeAny (model X.prog X.w) X.A (.compLoop (.ListComp elt [⟨.Tuple [.Name x px, .Name x2 px2] kt ptg, iter, ifs, 0⟩] scope pos) 0 (.ref it) (.ref D) (compEnvC scope cl C X.env)) (P (.ref D) C) s₃ := by
    rintro s₃ rfl
    refine compLoop_any (fun n s' => ∃ i ys its H', Inv Y [] τ H' s' ∧ tn i s'.heap ∧ (∀ b ∈ fp, H' b = none) ∧ H' D = none ∧ s'.heap.PlainList D (List.toArray its) ∧ Vals ys its ∧ W i n ys H') ?_ m0
      ⟨0, [], [], H2, yI, T.keep _ _ _ st2 (fun b _ o e => old b o e), fun b hb => (f2 b hb).1, HD, hacc, .nil, w0⟩
    rintro n s3 ⟨i, ys, its, H3, I3, st3, fr3, hD3, ⟨n0, hoD⟩, rv3, w3⟩
    obtain ⟨hz, ht⟩ := turn i n ys H3 w3
    have I3' : Inv Y [(D, { cls := .type "list", data := .seq its.toArray n0 })] τ H3 s3 := I3.pins_of fun p hp => by
      rw [List.mem_singleton.mp hp]
      exact ⟨hoD, hD3, hDC, stD, fun v z => by cases z⟩
    rcases ht with ⟨stop, q⟩ | ⟨go, hz', step⟩
    · refine thn (T.done Y rfl rfl rfl hc i _ s3 τ H3 _ I3' (stat fr3) st3 stop) fun r s4 ⟨hr, I4⟩ => ?_
      subst hr
      obtain ⟨m, hn, _⟩ := I4.loc
      exact hP D C H3 s4 ys its m (by rw [hC]; exact Nat.le_succ _) hD0 hC0 hDC hD3 I4.free hn ⟨n0, (I4.pin (D, _) (List.mem_append_right _ List.mem_cons_self)).1⟩ rv3 hz q I4.base I4.hok I4.bare I4.os
    · refine thn (T.item Y rfl rfl rfl hc i _ s3 τ H3 _ I3' (stat fr3) st3 go) fun r s4 ⟨u, hr, h4⟩ => ?_
      subst hr
      refine thn h4 fun _ s5 ⟨x', H5, I5, r5, y5, st5, fr5⟩ => ?_
      have I5' := I5.pinned (fp := fp) (stat fr5) (T.obj _ _ st5)
      obtain ⟨pt, v0, v1, ex', hqt, step'⟩ := step x' H5 y5
      refine thn (pg_tup (X := Y) (pos := ptg) (k := kt) (n := 2) hc (pgs_cons (pg_name (X := Y) (i := 0) (pos := px) hnd rfl (.inl hx') (.inr hx')) (pgs_cons (pg_name (X := Y) (i := 1) (pos := px2) hnd rfl (.inl hx2') (.inr hx2')) pgs_nil)) rfl rfl _ s5 τ H5 x' u (fun σ' H' => σ' = some v0 :: some v1 :: compSt (fs.map (·.2)) σ ∧ H' = H5) I5' r5 ⟨pt, [v0, v1], ex', hqt, rfl, v0, [v1], rfl, v1, [], rfl, rfl, rfl, rfl⟩) fun _ s6 ⟨σ6, H6, I6, e6, e6'⟩ => ?_
      subst e6 e6'
      have back : ∀ {σ' : St} {H' : Hp} {s' : Shared}, Inv Y ([(D, { cls := .type "list", data := .seq its.toArray n0 })] ++ pinsAt fp s5.heap) (some v0 :: some v1 :: compSt (fs.map (·.2)) σ) H' s' →
          Inv Y [] τ H' s' ∧ tn (i + 1) s'.heap ∧ (∀ b ∈ fp, H' b = none) ∧ H' D = none ∧ s'.heap.PlainList D its.toArray := fun {σ' H' s'} J' => by
        refine ⟨(J'.pins_of (pins' := []) (fun p hp => absurd hp (by simp))).weak rfl fun j v e => ?_, T.keep _ _ _ st5 fun b hb o e => (J'.pin (b, o) (List.mem_append_right _ (List.mem_append_right _ (mem_pinsAt hb e)))).1, fun b hb => ?_, ?_, n0, ?_⟩
        · cases j with
          | zero => cases e
          | succ j0 =>
            cases j0 with
            | zero => cases e
            | succ j => exact e
        · obtain ⟨o, e, d⟩ := T.obj _ _ st5 b hb
          exact (J'.pin (b, o) (List.mem_append_right _ (List.mem_append_right _ (mem_pinsAt hb e)))).2.1
        · exact (J'.pin (D, _) (List.mem_append_right _ (List.mem_append_left _ List.mem_cons_self))).2.1
        · exact (J'.pin (D, _) (List.mem_append_right _ (List.mem_append_left _ List.mem_cons_self))).1
      refine thn ((hb cl C s2 H2 fp).1 _ s6 _ _ _ I6 step') fun ok s7 ⟨H7, I7, q7⟩ => ?_
      cases ok with
      | false =>
        obtain ⟨m', hm, w7⟩ := q7
        obtain ⟨a1, a2, a3, a4, a5⟩ := back (σ' := τ) I7
        exact ⟨m', hm, i + 1, ys, its, H7, a1, a2, a3, a4, a5, rv3, w7⟩
      | true =>
        refine thn ((hb cl C s2 H2 fp).2 _ s7 _ _ _ I7 q7) fun y s8 ⟨yv, H8, I8, ry, m', hm, w8⟩ => ?_
        obtain ⟨a1, a2, a3, a4, a5⟩ := back (σ' := τ) I8
        have hlen := rv3.length
        refine wpAny_list_append_plain (hsz := by rw [List.size_toArray, ← hlen]; exact hz) a5 fun h' hl' hs' => ?_
        refine ⟨m', hm, i + 1, ys ++ [yv], its ++ [y], H8, a1.turned (t' := s8.toks) (it := D) (fun b o hb e => hs'.extBut b o hb e) a4 hDC (.inr (by show s2.heap.objs.size ≤ D; rw [eD]; exact Nat.le_refl _)) (fun y c e => cellD y c e) (fun p hp => absurd (show p ∈ ([] : List (Addr × Obj)) from hp) (by simp)), T.keep _ _ _ a2 fun b hb o e => hs'.extBut b o (fpD b hb) e, a3, a4, by simpa using hl', rv3.append (.cons ry .nil), w8⟩
  exact codeAny_compStart_list (loop _ rfl) (T.self X.A 0 _ _ _ (T.keep _ _ _ st2 (fun b _ o e => old b o e)) (loop _ rfl))

theorem pe_comp2 {elt iter : Expr} {x x2 : Str} {px px2 ptg pos : Pos} {kt : Nat} {ifs : List Expr} {scope : Scope} (fs : List (Str × Nat)) {wi : TI} {tt : TT} {te : TE}
    (hc : X.calm = true) (hkind : scope.kind = .function) (hcell : ∀ y ∈ scope.names, y.2 ≠ .cell) (hnames : ∀ y ∈ scope.names, y.2 = .local → scope.names.lookup y.1 = some .local)
    (hfree : ∀ y ∈ scope.names, y.2 = .free → X.env.kindOf y.1 = some .cell ∨ X.env.kindOf y.1 = some .free) (hx : scope.names.lookup x = some .local) (hx2 : scope.names.lookup x2 = some .local)
    (hnd : (x :: x2 :: fs.map (·.1)).Nodup) (hfs : ∀ f ∈ fs, X.N[f.2]? = some f.1 ∧ (X.env.kindOf f.1 = some .cell ∨ X.env.kindOf f.1 = some .free) ∧ scope.names.lookup f.1 = some .free)
    (hi : PI X (.Tuple [.Name x px, .Name x2 px2] kt ptg) iter wi)
    (hb : ∀ (cl : List (Str × Addr)) (C : Addr) (s₀ : Shared) (H₀ : Hp) (ex : List Addr), PTs (cxComp X scope cl C (x :: x2 :: fs.map (·.1)) s₀ H₀ ex) ifs tt ∧ PE (cxComp X scope cl C (x :: x2 :: fs.map (·.1)) s₀ H₀ ex) elt te)
    (hs : ∀ x, foldedSetIterable iter X.env x = pure x := by intro _; rfl) :
    PE X (.ListComp elt [⟨.Tuple [.Name x px, .Name x2 px2] kt ptg, iter, ifs, 0⟩] scope pos) (tComp2 X.K wi (fs.map (·.2)) tt te) := by
  intro pins s σ H Q I h
  obtain ⟨cl, hclos, hcl1, hcl2⟩ := closureFor_ex (env := X.env) (scope := scope) fun y hy hk => I.ok.has y.1 (hfree y hy hk)
  rw [eval_ListComp]
  refine wpAny_comprehension_free (use := none) rfl hs hclos hkind hnames (thn (hi pins s σ H _ I h) fun v s1 h1 => thn h1 fun itv s2 h2 => ?_)
  obtain ⟨it, fp, tn, J, H2, e, I2, T, st2, f2, W, w0, turn⟩ := h2
  subst e
  refine comp_block2 (pins := pins) hc hkind hcell hx hx2 hnd hfs hb hcl1 hcl2 I2 T st2 f2 W (fun H ys => ∀ p, H p = none → Q (.ref p) (upd H p (.lst ys))) w0 turn ?_
  intro D C H' s' ys its m hCs hD hC hDC HD HC hn pl rv hz q u hok hg ho
  exact ⟨m, hn, fun h' hs' => ⟨.ref D, _, comp_after (tk := s'.toks) I2 f2 hD hC hDC HD HC pl rv hz u hok hg ho hs', rfl, q D HD⟩⟩

theorem ps_comp2 {i : Nat} {y : Str} {py spos : Pos} {elt iter : Expr} {x x2 : Str} {px px2 ptg pos : Pos} {kt : Nat} {ifs : List Expr} {scope : Scope} (fs : List (Str × Nat)) {wi : TI} {tt : TT} {te : TE}
    (hN : X.N.Nodup) (hy : X.N[i]? = some y) (hyl : X.env.scope.names.lookup y = some .local)
    (hc : X.calm = true) (hkind : scope.kind = .function) (hcell : ∀ y ∈ scope.names, y.2 ≠ .cell) (hnames : ∀ y ∈ scope.names, y.2 = .local → scope.names.lookup y.1 = some .local)
    (hfree : ∀ y ∈ scope.names, y.2 = .free → X.env.kindOf y.1 = some .cell ∨ X.env.kindOf y.1 = some .free) (hx : scope.names.lookup x = some .local) (hx2 : scope.names.lookup x2 = some .local)
    (hnd : (x :: x2 :: fs.map (·.1)).Nodup) (hfs : ∀ f ∈ fs, X.N[f.2]? = some f.1 ∧ (X.env.kindOf f.1 = some .cell ∨ X.env.kindOf f.1 = some .free) ∧ scope.names.lookup f.1 = some .free)
    (hi : PI X (.Tuple [.Name x px, .Name x2 px2] kt ptg) iter wi)
    (hb : ∀ (cl : List (Str × Addr)) (C : Addr) (s₀ : Shared) (H₀ : Hp) (ex : List Addr), PTs (cxComp X scope cl C (x :: x2 :: fs.map (·.1)) s₀ H₀ ex) ifs tt ∧ PE (cxComp X scope cl C (x :: x2 :: fs.map (·.1)) s₀ H₀ ex) elt te)
    (hsw : swapsWith (.ListComp elt [⟨.Tuple [.Name x px, .Name x2 px2] kt ptg, iter, ifs, 0⟩] scope pos) (some (.Name y py)) spos.line X.env = pure true)
    (hs : ∀ x, foldedSetIterable iter X.env x = pure x := by intro _; rfl) :
    PS X (.Assign [.Name y py] (.ListComp elt [⟨.Tuple [.Name x px, .Name x2 px2] kt ptg, iter, ifs, 0⟩] scope pos) spos) (tCompSet2 X.K i wi (fs.map (·.2)) tt te) := by
  intro pins s σ H D' I h
  obtain ⟨cl, hclos, hcl1, hcl2⟩ := closureFor_ex (env := X.env) (scope := scope) fun y hy hk => I.ok.has y.1 (hfree y hy hk)
  rw [exec_Assign_Name_used _ _ _ _ hsw]
  refine wpAny_bind (wpAny_standAt (wpAny_bind ?_))
  show wpAny _ X.A (do let _ ← comprehension (.ListComp elt [⟨.Tuple [.Name x px, .Name x2 px2] kt ptg, iter, ifs, 0⟩] scope pos) scope X.env _ (newList []) false (eval iter X.env) (some (assign (.Name y py) X.env))) _ _ s
  refine wpAny_bind (wpAny_mono (wpAny_comprehension_free (use := some (assign (.Name y py) X.env)) (Q := fun _ s' => SP X pins D' .next s') rfl hs hclos hkind hnames
    (thn (hi pins s σ H _ I h) fun v s1 h1 => thn h1 fun itv s2 h2 => ?_)) (fun _ s' hq => wpAny_pure (wpAny_pure hq)) fun _ _ e => e)
  obtain ⟨it, fp, tn, J, H2, e, I2, T, st2, f2, W, w0, turn⟩ := h2
  subst e
  refine comp_block2 (pins := pins) hc hkind hcell hx hx2 hnd hfs hb hcl1 hcl2 I2 T st2 f2 W (fun H ys => ∀ p, H p = none → D'.nx (σ.set i (some (.ref p))) (upd H p (.lst ys))) w0 turn ?_
  intro D C H' s' ys its m hCs hD hC hDC HD HC hn pl rv hz q u hok hg ho
  show wpAny _ X.A (assign (.Name y py) X.env (.ref D)) _ _ _
  -- store, with the block's frame still there
  have J := comp_after (tk := s'.toks) I2 f2 hD hC hDC HD HC pl rv hz u hok hg ho (Heap.SameBut.refl C s'.heap)
  refine wpAny_assign_Name (store_ok2 J hN hy (.inl hyl) (v := .ref D) (u := .ref D) rfl (fun s3 J3 ⟨a, sb, ha⟩ => ?_) (.inr hyl))
  have exL : ∃ o, s2.heap.get? X.env.locals = some o := let ⟨_, ⟨o, _, _, e, _⟩, _⟩ := I2.loc; ⟨o, e⟩
  have cellC : ∀ z c, X.env.cells.lookup z = some c → c ≠ C := fun z c e q => by
    obtain ⟨v, oc, ho, _⟩ := I2.cell z c e
    rw [q, hC] at ho; cases ho
  have aC : a ≠ C := by
    rcases ha with z | z
    · obtain ⟨o, e⟩ := exL
      intro q
      rw [← z, q, hC] at e; cases e
    · exact cellC y a z
  have LC : C ≠ X.env.locals := fun q => by
    obtain ⟨o, e⟩ := exL
    rw [← q, hC] at e; cases e
  refine ⟨m, hn.sameBut sb (Ne.symm aC), fun h' hs' => ?_⟩
  exact ⟨_, _, J3.turned (t' := s3.toks) (it := C) (fun b o hb e => hs'.extBut b o hb e) (by rw [upd_ne (Ne.symm hDC)]; exact HC) LC (.inr (Nat.le_trans I2.sz hCs)) cellC (fun p hp z => by
    have := (I2.pin p hp).1
    rw [z, hC] at this; cases this), q D HD⟩
end
section
variable {X : Cx} {iter : Expr} {x x2 : Str} {px px2 ptg pos : Pos} {kt : Nat}
def compLook2 (names : List (Str × NameKind)) (outer : List (Str × NameKind)) (N : List Str) (x x2 : Str) (fs : List (Str × Nat)) : Bool :=
  compLook names outer N x fs && (names.lookup x2 == some .local) && decide ((x :: x2 :: fs.map (·.1)).Nodup)
theorem ke_comp2 {elt : Expr} {ifs : List Expr} {scope : Scope} (fs : List (Str × Nat)) {wi : TI} {tt : TT} {te : TE}
    (hi : QI X (.Tuple [.Name x px, .Name x2 px2] kt ptg) iter wi)
    (hb : ∀ (cl : List (Str × Addr)) (C : Addr) (s₀ : Shared) (H₀ : Hp) (ex : List Addr), QTs (cxComp X scope cl C (x :: x2 :: fs.map (·.1)) s₀ H₀ ex) ifs tt ∧ QE (cxComp X scope cl C (x :: x2 :: fs.map (·.1)) s₀ H₀ ex) elt te)
    (hc : X.calm = true := by kernel_rfl) (hk : scope.kind = .function := by kernel_rfl) (hl : compLook2 scope.names X.env.scope.names X.N x x2 fs = true := by kernel_rfl)
    (hs : ∀ x, foldedSetIterable iter X.env x = pure x := by intro _; kernel_rfl) :
    QE X (.ListComp elt [⟨.Tuple [.Name x px, .Name x2 px2] kt ptg, iter, ifs, 0⟩] scope pos) (tComp2 X.K wi (fs.map (·.2)) tt te) := by
  unfold compLook2 at hl
  simp only [Bool.and_eq_true, beq_iff_eq, decide_eq_true_eq] at hl
  have O := compOk_of (X := X) hk hl.1.1
  exact ⟨pe_comp2 fs hc O.kind O.cell O.names O.free O.hx hl.1.2 hl.2 O.fs hi.p (fun cl C s₀ H₀ ex => ⟨(hb cl C s₀ H₀ ex).1.p, (hb cl C s₀ H₀ ex).2.p⟩) hs⟩
theorem ks_comp2 {i : Nat} {y : Str} {py spos : Pos} {elt : Expr} {ifs : List Expr} {scope : Scope} (fs : List (Str × Nat)) {wi : TI} {tt : TT} {te : TE}
    (hN : X.N.Nodup) (hi : QI X (.Tuple [.Name x px, .Name x2 px2] kt ptg) iter wi)
    (hb : ∀ (cl : List (Str × Addr)) (C : Addr) (s₀ : Shared) (H₀ : Hp) (ex : List Addr), QTs (cxComp X scope cl C (x :: x2 :: fs.map (·.1)) s₀ H₀ ex) ifs tt ∧ QE (cxComp X scope cl C (x :: x2 :: fs.map (·.1)) s₀ H₀ ex) elt te)
    (hy : X.N[i]? = some y := by kernel_rfl) (hyl : X.env.scope.names.lookup y = some .local := by kernel_rfl) (hc : X.calm = true := by kernel_rfl)
    (hk : scope.kind = .function := by kernel_rfl) (hl : compLook2 scope.names X.env.scope.names X.N x x2 fs = true := by kernel_rfl)
    (hsw : swapsWith (.ListComp elt [⟨.Tuple [.Name x px, .Name x2 px2] kt ptg, iter, ifs, 0⟩] scope pos) (some (.Name y py)) spos.line X.env = pure true := by kernel_rfl)
    (hs : ∀ x, foldedSetIterable iter X.env x = pure x := by intro _; kernel_rfl) :
    QS X (.Assign [.Name y py] (.ListComp elt [⟨.Tuple [.Name x px, .Name x2 px2] kt ptg, iter, ifs, 0⟩] scope pos) spos) (tCompSet2 X.K i wi (fs.map (·.2)) tt te) := by
  unfold compLook2 at hl
  simp only [Bool.and_eq_true, beq_iff_eq, decide_eq_true_eq] at hl
  have O := compOk_of (X := X) hk hl.1.1
  exact ⟨ps_comp2 fs hN hy hyl hc O.kind O.cell O.names O.free O.hx hl.1.2 hl.2 O.fs hi.p (fun cl C s₀ H₀ ex => ⟨(hb cl C s₀ H₀ ex).1.p, (hb cl C s₀ H₀ ex).2.p⟩) hsw hs⟩
end
/-- over a list of pairs that stays -/
theorem comp2_l {K : PySem.W.Frag} {tl : TE} {a : Addr} {xs : List V} {σ : St} {fs : List Nat} {tt : TT} {te : TE} {H : Hp} {Q : VK} (ha : ∀ Q : VK, Q (.ref a) H → tl σ H Q) (hq : SqL K H a xs) (Pv : Nat → List V → Hp → Prop) (h0 : Pv 0 [] H) (hl : ∀ i ys H, i ≤ xs.length → Pv i ys H → SqL K H a xs ∧ ys.length ≤ i) (hn : xs.length ≤ sizeLine)
    (hs : ∀ i x ys H, xs[i]? = some x → Pv i ys H → ∃ p v0 v1, x = .ref p ∧ SqT K H p [v0, v1] ∧ ∀ R : List V → Hp → Prop, (∀ ys' H', Pv (i + 1) ys' H' → R ys' H') → tt (some v0 :: some v1 :: compSt fs σ) H fun b H2 => if b = true then te (some v0 :: some v1 :: compSt fs σ) H2 fun y H3 => R (ys ++ [y]) H3 else R ys H2)
    (hd : ∀ ys H, Pv xs.length ys H → ∀ p, H p = none → Q (.ref p) (upd H p (.lst ys))) : tComp2 K (iList K tl) fs tt te σ H Q := by
  refine ha _ ⟨a, rfl, ⟨xs, hq⟩, ?_⟩
  refine ⟨fun i m ys H => m = xs.length - i ∧ i ≤ xs.length ∧ Pv i ys H, ⟨xs.length, by simp, Nat.zero_le _, h0⟩, ?_⟩
  rintro i m ys H ⟨rfl, hi, p⟩
  obtain ⟨hq, hle⟩ := hl i ys H hi p
  refine ⟨by omega, ?_⟩
  by_cases hlt : i < xs.length
  · refine .inr ⟨⟨xs, xs[i], hq, by simp [hlt]⟩, by omega, fun x H' y => ?_⟩
    obtain ⟨e, y⟩ := y
    subst e
    obtain ⟨pt, v0, v1, e, hqt, h⟩ := hs i x ys _ (y xs hq) p
    exact ⟨pt, v0, v1, e, hqt, h (fun ys' H' => ∃ m', m' < xs.length - i ∧ m' = xs.length - (i + 1) ∧ i + 1 ≤ xs.length ∧ Pv (i + 1) ys' H') fun ys' H' q => ⟨xs.length - (i + 1), by omega, rfl, hlt, q⟩⟩
  · have e : i = xs.length := by omega
    subst e
    exact .inl ⟨⟨xs, hq, Nat.le_refl _⟩, hd ys H p⟩
end L2

/-! marks as lists of codes: the mathematics -/
namespace MM
/-- the value of the first n letters, noughts behind -/
def val (K : Nat) : List Nat → Nat → Nat
  | _, 0 => 0
  | [], _ + 1 => 0
  | c :: m, n + 1 => (c - 97) * K ^ n + val K m n
/-- letters of K -/
def Ls (K : Nat) (m : List Nat) : Prop := ∀ c ∈ m, 97 ≤ c ∧ c < 97 + K
/-- no a at the end -/
def Na (m : List Nat) : Prop := ∀ c, m.getLast? = some c → c ≠ 97
/-- a mark -/
structure Mark (K : Nat) (m : List Nat) : Prop where
  ls : Ls K m
  na : Na m
  ne : m ≠ []
theorem Ls.nil (K : Nat) : Ls K [] := fun _ h => nomatch h
theorem Ls.app {K : Nat} {a b : List Nat} (h : Ls K a) (h' : Ls K b) : Ls K (a ++ b) := fun c hc => (List.mem_append.mp hc).elim (h c) (h' c)
theorem Ls.mono {K L : Nat} {m : List Nat} (h : Ls K m) (hl : K ≤ L) : Ls L m := fun c hc => ⟨(h c hc).1, by have := (h c hc).2; omega⟩
theorem Ls.sub {K : Nat} {a b : List Nat} (h : Ls K b) (s : ∀ c ∈ a, c ∈ b) : Ls K a := fun c hc => h c (s c hc)
theorem Na.nil : Na [] := fun c h => by simp at h
theorem Na.app {a b : List Nat} (h : Na b) (hb : b ≠ []) : Na (a ++ b) := fun c hc => by
  rw [List.getLast?_append] at hc
  cases e : b.getLast? with
  | none => exact absurd (List.getLast?_eq_none_iff.mp e) hb
  | some d => rw [e] at hc; exact h c (by rw [e]; exact hc)
theorem Na.one {c : Nat} (h : c ≠ 97) : Na [c] := fun d hd => by simp at hd; omega
theorem val_zero (K : Nat) (m : List Nat) : val K m 0 = 0 := by cases m <;> rfl
theorem val_nil (K n : Nat) : val K [] n = 0 := by cases n <;> rfl
theorem val_cons (K c n : Nat) (m : List Nat) : val K (c :: m) (n + 1) = (c - 97) * K ^ n + val K m n := rfl
/-- the letters of the number r at the length n -/
def low (K r : Nat) : Nat → List Nat
  | 0 => []
  | n + 1 => (97 + r / K ^ n % K) :: low K r n
theorem low_length (K r : Nat) : ∀ n, (low K r n).length = n
  | 0 => rfl
  | n + 1 => by rw [low, List.length_cons, low_length K r n]
theorem low_ls {K : Nat} (hK : 0 < K) (r : Nat) : ∀ n, Ls K (low K r n)
  | 0 => Ls.nil K
  | n + 1 => fun c hc => by
    rcases List.mem_cons.mp hc with rfl | hc
    · have := Nat.mod_lt (r / K ^ n) hK; omega
    · exact low_ls hK r n c hc
theorem low_val_eq {K : Nat} (hK : 0 < K) (r : Nat) : ∀ n, val K (low K r n) n = r % K ^ n
  | 0 => by rw [val_zero, Nat.pow_zero, Nat.mod_one]
  | n + 1 => by
    rw [low, val_cons, low_val_eq hK r n, Nat.pow_succ, Nat.mod_mul, Nat.add_comm, Nat.mul_comm, Nat.add_sub_cancel_left]
/-- the a's at the end go -/
def cutA (m : List Nat) : List Nat := (m.reverse.dropWhile (fun c => [97].contains c)).reverse
theorem cutA_snoc_a (m : List Nat) : cutA (m ++ [97]) = cutA m := by
  unfold cutA
  rw [List.reverse_append]
  show (List.dropWhile _ (97 :: m.reverse)).reverse = _
  rw [List.dropWhile_cons_of_pos (by decide)]
theorem cutA_na {m : List Nat} (h : Na m) : cutA m = m := by
  unfold cutA
  cases e : m.reverse with
  | nil => rw [List.dropWhile_nil, ← e, List.reverse_reverse]
  | cons c r =>
    have hc : c ≠ 97 := h c (by rw [List.getLast?_eq_head?_reverse, e]; rfl)
    rw [List.dropWhile_cons_of_neg (by simp [hc]), ← e, List.reverse_reverse]
/-- every text is its cut one and a's -/
theorem cutA_spec (m : List Nat) : ∃ k, m = cutA m ++ List.replicate k 97 ∧ Na (cutA m) := by
  obtain ⟨n, hn⟩ : ∃ n, m.length = n := ⟨_, rfl⟩
  induction n generalizing m with
  | zero =>
    obtain rfl : m = [] := List.length_eq_zero_iff.mp hn
    exact ⟨0, rfl, Na.nil⟩
  | succ n ih =>
    by_cases h : Na m
    · exact ⟨0, by rw [cutA_na h]; simp, by rw [cutA_na h]; exact h⟩
    · obtain ⟨c, hc, e⟩ : ∃ c, m.getLast? = some c ∧ c = 97 := by
        apply Classical.byContradiction
        intro q
        exact h fun c hc e => q ⟨c, hc, e⟩
      subst e
      obtain ⟨r, rfl⟩ := List.getLast?_eq_some_iff.mp hc
      obtain ⟨k, e1, e2⟩ := ih r (by simpa using hn)
      rw [cutA_snoc_a]
      refine ⟨k + 1, ?_, e2⟩
      rw [List.replicate_succ', ← List.append_assoc, ← e1]
theorem val_app_a (K : Nat) : ∀ (m : List Nat) (k n : Nat), val K (m ++ List.replicate k 97) n = val K m n
  | m, k, 0 => by rw [val_zero, val_zero]
  | [], 0, n + 1 => rfl
  | [], k + 1, n + 1 => by
    rw [List.nil_append, List.replicate_succ, val_cons]
    have := val_app_a K [] k n
    rw [List.nil_append] at this
    rw [this, val_nil, val_nil]; simp
  | c :: m, k, n + 1 => by rw [List.cons_append, val_cons, val_cons, val_app_a K m k n]
theorem cutA_val (K : Nat) (m : List Nat) (n : Nat) : val K (cutA m) n = val K m n := by
  obtain ⟨k, e, _⟩ := cutA_spec m
  have h : val K m n = val K (cutA m ++ List.replicate k 97) n := by rw [← e]
  rw [h, val_app_a]
theorem cutA_na' (m : List Nat) : Na (cutA m) := by
  obtain ⟨k, _, h⟩ := cutA_spec m
  exact h
theorem cutA_len (m : List Nat) : (cutA m).length ≤ m.length := by
  obtain ⟨k, e, _⟩ := cutA_spec m
  have h : m.length = (cutA m ++ List.replicate k 97).length := by rw [← e]
  rw [h, List.length_append]; omega
theorem cutA_sub (m : List Nat) : ∀ c ∈ cutA m, c ∈ m := fun c hc => by
  obtain ⟨k, e, _⟩ := cutA_spec m
  rw [e]; exact List.mem_append_left _ hc
/-- the mark told to a number -/
def mk (K r n : Nat) : List Nat := cutA (low K r n)
theorem mk_val {K : Nat} (hK : 0 < K) {r n : Nat} (h : r < K ^ n) : val K (mk K r n) n = r := by
  rw [mk, cutA_val, low_val_eq hK, Nat.mod_eq_of_lt h]
theorem mk_len (K r n : Nat) : (mk K r n).length ≤ n := by
  have := cutA_len (low K r n); rw [low_length] at this; exact this
theorem mk_ls {K : Nat} (hK : 0 < K) (r n : Nat) : Ls K (mk K r n) := (low_ls hK r n).sub (cutA_sub _)
theorem mk_na (K r n : Nat) : Na (mk K r n) := cutA_na' _
theorem mk_ne {K : Nat} (hK : 0 < K) {r n : Nat} (h0 : 0 < r) (h : r < K ^ n) : mk K r n ≠ [] := fun e => by
  have := mk_val hK h
  rw [e, val_nil] at this; omega
theorem mk_mark {K : Nat} (hK : 0 < K) {r n : Nat} (h0 : 0 < r) (h : r < K ^ n) : Mark K (mk K r n) := ⟨mk_ls hK r n, mk_na K r n, mk_ne hK h0 h⟩
end MM

/-! the mathematics of k03 -/
namespace MM
end MM

/-! rooms: the numbers whose last letter is one of the ends -/
namespace MM
/-- ends: codes from 98 on, of L letters, rising -/
structure Ends (L : Nat) (es : List Nat) : Prop where
  up : es.Pairwise (· < ·)
  lo : ∀ e ∈ es, 98 ≤ e
  hi : ∀ e ∈ es, e < 97 + L
  ne : es ≠ []
def cnt (es : List Nat) (x : Nat) : Nat := (es.filter (fun e => decide (e < x))).length
def ob (L : Nat) (es : List Nat) (N : Nat) : Nat := N / L * es.length + cnt es (97 + N % L)
def ow (L : Nat) (es : List Nat) (w : Nat) : Bool := decide (97 + w % L ∈ es)
end MM

namespace MM
end MM

/-! numbers between: the least length, the sum by figures -/
namespace MM
end MM

set_option Elab.async false
set_option linter.all false
set_option maxRecDepth 100000
set_option maxHeartbeats 4000000
namespace L2
open PySem PySem.Spec PyProof.Rows MM
/-! ### the draw by shifts -/
def spDraw (K : PySem.W.Frag) : Sp := fun vs H Q _ => ∃ (a : Addr) (ns : List Int) (k m : Int), vs = [.ref a, .int k, .int m] ∧ SqL K H a (ns.map V.int) ∧ ns.length ≤ 63 ∧ 0 ≤ k ∧ k < 1048576 ∧ 0 < m ∧ ∀ r : Int, 0 ≤ r → r < m → Q (.int r) H
theorem draw_end {i k m : Int} {Q : Int → Prop} (h0 : 0 ≤ k) (h1 : k < 1048576) (h2 : 0 < m) (q : ∀ r : Int, 0 ≤ r → r < m → Q r) :
    (0 : Int) < 1000003 ∧ CMulB 31 k ∧ CMulB (31 * k) k ∧ CMulB (i % 1000003 + 31 * k * k + 1) 48271 ∧ (0 : Int) < 999983 ∧ CMulB ((i % 1000003 + 31 * k * k + 1) * 48271 % 999983) 7919 ∧ (0 : Int) < 524287 ∧ 0 < m ∧
      Q ((i % 1000003 + 31 * k * k + 1) * 48271 % 999983 * 7919 % 524287 % m) :=
  ⟨by decide, mulB_l (by decide) (by decide), mulB_r (by omega) (by omega), mulB_r (by decide) (by decide), by decide, mulB_r (by decide) (by decide), by decide, h2, q _ (Int.emod_nonneg _ (by omega)) (Int.emod_lt_of_pos _ h2)⟩
/-! ### the ends of a hand -/
theorem flat_ones (l : List Nat) : (l.map fun c => [c]).flatten = l := by
  induction l with
  | nil => rfl
  | cons c l ih => rw [List.map_cons, List.flatten_cons, ih]; rfl
theorem sum_ones (l : List Nat) : ((l.map fun c => [c]).map (·.length)).sum = l.length := by
  induction l with
  | nil => rfl
  | cons c l ih => simp only [List.map_cons, List.sum_cons, ih, List.length_cons, List.length_nil]; omega
end L2

set_option Elab.async false
set_option linter.all false
set_option maxRecDepth 100000
set_option maxHeartbeats 4000000
namespace L2
open PySem PySem.Spec PyProof.Rows MM
/-! ### a mark or None -/
def valO (K : Nat) : Option (List Nat) → Nat → Nat
  | none, _ => 0
  | some l, n => val K l n
def OkO : Option (List Nat) → Prop
  | none => True
  | some l => Ls 26 l ∧ l.length ≤ 100000
/-! ### figure_at -/
/-! ### whole_of -/
/-! ### mark_of -/
def spMarkOf : Sp := fun vs H Q _ => ∃ (L r n : Nat), vs = [.int L, .int r, .int n] ∧ 0 < L ∧ L ≤ 26 ∧ n ≤ 100000 ∧ Q (.str (txt (mk L r n))) H
def rdMarkOf (K : PySem.W.Frag) : TS :=
    tSeq (tAsg (tC (.str (txt []))) (gName 3))
      (tSeq (tAsg (tVar 1) (gName 4))
      (tSeq (tFor (iRng1 (tCons (tVar 2) tNil)) (gName 5) (tSeq (tAsg (tOp rAddS (tOp rIxStr (tC (.str (txt ABC))) (tOp rModI (tVar 4) (tVar 0))) (tVar 3)) (gName 3))
      (tAsg (tOp rDivI (tVar 4) (tVar 0)) (gName 4))))
      (tRet (tBM K "str" rRstrip (tVar 3) (tCons (tC (.str (txt [97]))) tNil)))))
theorem read_markOf {K : PySem.W.Frag} {N : List Str} {vs : List V} {H : Hp} {Q : VK} {E : XK} (hN : N.length = 6) (h : spMarkOf vs H Q E) : rdMarkOf K { nx := fun _ H' => Q .non H', rt := Q } (L2.start N vs) H := by
  obtain ⟨L, r, n, rfl, hL0, hL, hn, q⟩ := h
  unfold rdMarkOf L2.start
  rw [hN]
  simp only [tCompSet, tRaise, tIsi, tSeq, tAsg, gName, tOp, tUn, tVar, tC, tTest, tB, tIf, tIfS, tAnd, tOr, tNot, tAndV, tOrV, tNotV, tRet, tRetN, tNext, tDrop, tCB, tCons, tNil, tBM, tBM0, tCall, tLst, tTup, tSl, tPart, tNoPart, tIsN, tNotN, tYes, tBreak, tCont, rI0, rI, rU, rEq, rNe, L2.start, compSt, List.map_cons, List.map_nil, List.length_cons, List.length_nil, List.replicate_succ, List.replicate_zero, List.cons_append, List.nil_append, List.append_nil, List.getElem?_cons_zero, List.getElem?_cons_succ, List.set_cons_zero, List.set_cons_succ, Option.some.injEq, Option.join_some, V.int.injEq, V.str.injEq, V.bl.injEq, V.ref.injEq, txt_inj, exists_eq_left', exists_eq_left, exists_and_left, and_true, true_and, decide_eq_true_eq, reduceCtorEq, decide_false, decide_true, Bool.not_false, Bool.not_true, if_true, if_false, Bool.false_eq_true, Nat.reduceAdd, Nat.reduceSub, Bool.not_eq_true', decide_eq_false_iff_not, not_true_eq_false, not_false_eq_true]
  refine for_r1 (j := n) (fun Q h => ⟨_, rfl, h⟩) (by omega) (by omega) (fun i σ H' => H' = H ∧ ∃ v5, σ = [some (.int L), some (.int r), some (.int n), some (.str (txt (low L r i))), some (.int (r / L ^ i : Nat)), v5]) ⟨rfl, _, by rw [Nat.pow_zero, Nat.div_one]; rfl⟩ ?_ ?_
  · rintro i σ H1 hi ⟨rfl, v5, rfl⟩
    have e1 : ((r / L ^ i : Nat) : Int) % (L : Int) = ((r / L ^ i % L : Nat) : Int) := (Int.natCast_emod _ _).symm
    have e2 : ((r / L ^ i : Nat) : Int) / (L : Int) = ((r / L ^ (i + 1) : Nat) : Int) := by rw [Nat.pow_succ, ← Nat.div_div_eq_div_mul]; exact (Int.natCast_ediv _ _).symm
    have hb := Nat.mod_lt (r / L ^ i) hL0
    simp only [tCompSet, tRaise, tIsi, tSeq, tAsg, gName, tOp, tUn, tVar, tC, tTest, tB, tIf, tIfS, tAnd, tOr, tNot, tAndV, tOrV, tNotV, tRet, tRetN, tNext, tDrop, tCB, tCons, tNil, tBM, tBM0, tCall, tLst, tTup, tSl, tPart, tNoPart, tIsN, tNotN, tYes, tBreak, tCont, rI0, rI, rU, rEq, rNe, L2.start, compSt, List.map_cons, List.map_nil, List.length_cons, List.length_nil, List.replicate_succ, List.replicate_zero, List.cons_append, List.nil_append, List.append_nil, List.getElem?_cons_zero, List.getElem?_cons_succ, List.set_cons_zero, List.set_cons_succ, Option.some.injEq, Option.join_some, V.int.injEq, V.str.injEq, V.bl.injEq, V.ref.injEq, txt_inj, exists_eq_left', exists_eq_left, exists_and_left, and_true, true_and, decide_eq_true_eq, reduceCtorEq, decide_false, decide_true, Bool.not_false, Bool.not_true, if_true, if_false, Bool.false_eq_true, Nat.reduceAdd, Nat.reduceSub, Bool.not_eq_true', decide_eq_false_iff_not, not_true_eq_false, not_false_eq_true]
    rw [e1, e2]
    refine ⟨by omega, ixABC_go (by omega) (by omega) (addS_go (by rw [low_length]; simp only [List.length_cons, List.length_nil]; omega) ⟨cdiv (by omega) (by omega), ?_⟩)⟩
    exact ⟨rfl, some (.int i), by rw [Int.toNat_natCast]; rfl⟩
  · rintro σ H1 ⟨rfl, v5, rfl⟩
    simp only [tCompSet, tRaise, tIsi, tSeq, tAsg, gName, tOp, tUn, tVar, tC, tTest, tB, tIf, tIfS, tAnd, tOr, tNot, tAndV, tOrV, tNotV, tRet, tRetN, tNext, tDrop, tCB, tCons, tNil, tBM, tBM0, tCall, tLst, tTup, tSl, tPart, tNoPart, tIsN, tNotN, tYes, tBreak, tCont, rI0, rI, rU, rEq, rNe, L2.start, compSt, List.map_cons, List.map_nil, List.length_cons, List.length_nil, List.replicate_succ, List.replicate_zero, List.cons_append, List.nil_append, List.append_nil, List.getElem?_cons_zero, List.getElem?_cons_succ, List.set_cons_zero, List.set_cons_succ, Option.some.injEq, Option.join_some, V.int.injEq, V.str.injEq, V.bl.injEq, V.ref.injEq, txt_inj, exists_eq_left', exists_eq_left, exists_and_left, and_true, true_and, decide_eq_true_eq, reduceCtorEq, decide_false, decide_true, Bool.not_false, Bool.not_true, if_true, if_false, Bool.false_eq_true, Nat.reduceAdd, Nat.reduceSub, Bool.not_eq_true', decide_eq_false_iff_not, not_true_eq_false, not_false_eq_true]
    rw [Int.toNat_natCast]
    exact ⟨rfl, rstrip_go (by rw [low_length]; exact hn) q⟩
/-! ### is_mark -/
end L2

set_option Elab.async false
set_option linter.all false
set_option maxRecDepth 100000
set_option maxHeartbeats 4000000
namespace L2
open PySem PySem.Spec PyProof.Rows MM
theorem Same.set {H H' : Hp} {p : Addr} {o : HO} (s : Same H H') (hp : H p = none) : Same H (upd H' p o) := fun b q e => by
  have := s b q e
  rw [upd_ne (ne_of_none e hp)]; exact this
theorem some_at {α : Type} {l : List α} {i : Nat} (h : i < l.length) : ∃ c, l[i]? = some c := ⟨l[i], List.getElem?_eq_getElem h⟩
end L2

set_option Elab.async false
set_option linter.all false
set_option maxRecDepth 100000
set_option maxHeartbeats 4000000
namespace L2
open PySem PySem.Spec PyProof.Rows MM
/-! ### power -/
def spPower : Sp := fun vs H Q _ => ∃ (L n : Nat), vs = [.int L, .int n] ∧ L ≤ 26 ∧ n ≤ 100000 ∧ Q (.int (L ^ n : Nat)) H
def rdPower : TS :=
    tSeq (tAsg (tC (.int 1)) (gName 2))
      (tSeq (tFor (iRng1 (tCons (tVar 1) tNil)) (gName 3) (tAsg (tOp rMulI (tVar 2) (tVar 0)) (gName 2)))
      (tRet (tVar 2)))
theorem read_power {N : List Str} {vs : List V} {H : Hp} {Q : VK} {E : XK} (hN : N.length = 4) (h : spPower vs H Q E) : rdPower { nx := fun _ H' => Q .non H', rt := Q } (L2.start N vs) H := by
  obtain ⟨L, n, rfl, hL, hn, q⟩ := h
  unfold rdPower L2.start
  rw [hN]
  simp only [tCompSet, tRaise, tIsi, tSeq, tAsg, gName, tOp, tUn, tVar, tC, tTest, tB, tIf, tIfS, tAnd, tOr, tNot, tAndV, tOrV, tNotV, tRet, tRetN, tNext, tDrop, tCB, tCons, tNil, tBM, tBM0, tCall, tLst, tTup, tSl, tPart, tNoPart, tIsN, tNotN, tYes, tBreak, tCont, rI0, rI, rU, rEq, rNe, L2.start, compSt, List.map_cons, List.map_nil, List.length_cons, List.length_nil, List.replicate_succ, List.replicate_zero, List.cons_append, List.nil_append, List.append_nil, List.getElem?_cons_zero, List.getElem?_cons_succ, List.set_cons_zero, List.set_cons_succ, Option.some.injEq, Option.join_some, V.int.injEq, V.str.injEq, V.bl.injEq, V.ref.injEq, txt_inj, exists_eq_left', exists_eq_left, exists_and_left, and_true, true_and, decide_eq_true_eq, reduceCtorEq, decide_false, decide_true, Bool.not_false, Bool.not_true, if_true, if_false, Bool.false_eq_true, Nat.reduceAdd, Nat.reduceSub, Bool.not_eq_true', decide_eq_false_iff_not, not_true_eq_false, not_false_eq_true]
  refine for_r1 (j := n) (fun Q h => ⟨_, rfl, h⟩) (by omega) (by omega) (fun i σ H' => H' = H ∧ ∃ v3, σ = [some (.int L), some (.int n), some (.int (L ^ i : Nat)), v3]) ⟨rfl, _, rfl⟩ ?_ ?_
  · rintro i σ H1 hi ⟨rfl, v3, rfl⟩
    simp only [tCompSet, tRaise, tIsi, tSeq, tAsg, gName, tOp, tUn, tVar, tC, tTest, tB, tIf, tIfS, tAnd, tOr, tNot, tAndV, tOrV, tNotV, tRet, tRetN, tNext, tDrop, tCB, tCons, tNil, tBM, tBM0, tCall, tLst, tTup, tSl, tPart, tNoPart, tIsN, tNotN, tYes, tBreak, tCont, rI0, rI, rU, rEq, rNe, L2.start, compSt, List.map_cons, List.map_nil, List.length_cons, List.length_nil, List.replicate_succ, List.replicate_zero, List.cons_append, List.nil_append, List.append_nil, List.getElem?_cons_zero, List.getElem?_cons_succ, List.set_cons_zero, List.set_cons_succ, Option.some.injEq, Option.join_some, V.int.injEq, V.str.injEq, V.bl.injEq, V.ref.injEq, txt_inj, exists_eq_left', exists_eq_left, exists_and_left, and_true, true_and, decide_eq_true_eq, reduceCtorEq, decide_false, decide_true, Bool.not_false, Bool.not_true, if_true, if_false, Bool.false_eq_true, Nat.reduceAdd, Nat.reduceSub, Bool.not_eq_true', decide_eq_false_iff_not, not_true_eq_false, not_false_eq_true]
    exact ⟨mulB_r (by omega) (by omega), some (.int i), by rw [Nat.pow_succ, Int.natCast_mul]⟩
  · rintro σ H1 ⟨rfl, v3, rfl⟩
    simp only [tCompSet, tRaise, tIsi, tSeq, tAsg, gName, tOp, tUn, tVar, tC, tTest, tB, tIf, tIfS, tAnd, tOr, tNot, tAndV, tOrV, tNotV, tRet, tRetN, tNext, tDrop, tCB, tCons, tNil, tBM, tBM0, tCall, tLst, tTup, tSl, tPart, tNoPart, tIsN, tNotN, tYes, tBreak, tCont, rI0, rI, rU, rEq, rNe, L2.start, compSt, List.map_cons, List.map_nil, List.length_cons, List.length_nil, List.replicate_succ, List.replicate_zero, List.cons_append, List.nil_append, List.append_nil, List.getElem?_cons_zero, List.getElem?_cons_succ, List.set_cons_zero, List.set_cons_succ, Option.some.injEq, Option.join_some, V.int.injEq, V.str.injEq, V.bl.injEq, V.ref.injEq, txt_inj, exists_eq_left', exists_eq_left, exists_and_left, and_true, true_and, decide_eq_true_eq, reduceCtorEq, decide_false, decide_true, Bool.not_false, Bool.not_true, if_true, if_false, Bool.false_eq_true, Nat.reduceAdd, Nat.reduceSub, Bool.not_eq_true', decide_eq_false_iff_not, not_true_eq_false, not_false_eq_true]
    rw [Int.toNat_natCast]
    exact q
/-! ### high_whole_of -/
def highO (L : Nat) : Option (List Nat) → Nat → Nat
  | none, n => L ^ n
  | some h, n => val L h n
/-! ### owned_below -/
/-! ### owned_up_to_low, owned_ahead_of_high -/
def aheadN : Option (List Nat) → Nat → Nat → Nat
  | none, w, _ => w
  | some h, w, n => if n < h.length then w + 1 else w
/-- with high's own beginnings, or without -/
def aheadB (b : Bool) (o : Option (List Nat)) (w n : Nat) : Nat := if b = true then aheadN o w n else w
/-! ### ask_room -/
/-! ### room_at -/
def roomI (L : Nat) (es : List Nat) (lo hi : Option (List Nat)) (n : Nat) : Int := (ob L es (aheadN hi (highO L hi n) n) : Nat) - (ob L es (valO L lo n + 1) : Nat)
def roomB (b : Bool) (L : Nat) (es : List Nat) (lo hi : Option (List Nat)) (n : Nat) : Int := (ob L es (aheadB b hi (highO L hi n) n) : Nat) - (ob L es (valO L lo n + 1) : Nat)
/-! ### counted_at -/
/-- what is handed in of a room -/
structure RoomIn (L h j : Nat) (lo hi : Option (List Nat)) (n : Nat) : Prop where
  l0 : 0 < L
  l26 : L ≤ 26
  h0 : 0 < h
  lo : OkO lo
  hi : OkO hi
  n : n ≤ 100000
/-! ### nth_mark -/
end L2

set_option Elab.async false
set_option linter.all false
set_option maxRecDepth 100000
set_option maxHeartbeats 4000000
/-! shared readings: least_counted, least_long for any many, told_number, mark_between -/
namespace L2
open PySem PySem.Spec PyProof.Rows MM
structure MarksOk (L : Nat) (lo hi : Option (List Nat)) : Prop where
  mlo : ∀ m, lo = some m → Mark L m ∧ m.length ≤ 1000
  mhi : ∀ m, hi = some m → Mark L m ∧ m.length ≤ 1000
def lenO : Option (List Nat) → Nat
  | none => 0
  | some l => l.length
structure Hands (L h j : Nat) : Prop where
  l2 : 2 ≤ L
  l26 : L ≤ 26
  hj : j < h
  hh : h + 1 ≤ L
/-- n is the least length with room for k -/
structure LeastB (b : Bool) (L : Nat) (es : List Nat) (lo hi : Option (List Nat)) (k n : Nat) : Prop where
  pos : 1 ≤ n
  len : n ≤ 1 + lenO lo + k ∨ n ≤ 1 + lenO hi + k
  room : (k : Int) ≤ roomB b L es lo hi n
  less : ∀ m, 1 ≤ m → m < n → roomB b L es lo hi m < k
theorem LeastB.one {b : Bool} {L : Nat} {es : List Nat} {lo hi : Option (List Nat)} {k n m : Nat} (A : LeastB b L es lo hi k n) (B : LeastB b L es lo hi k m) : n = m := by
  rcases Nat.lt_trichotomy n m with h | h | h
  · have := B.less n A.pos h
    have := A.room
    omega
  · exact h
  · have := A.less m B.pos h
    have := B.room
    omega
/-! ### told_number, mark_between -/
def toldI : Option (List Nat) → Option (List Nat) → Int → Int
  | some _, none, _ => 0
  | none, some _, z => z - 1
  | _, _, z => (z - 1) / 2
/-- the mark between -/
structure Found (L : Nat) (es : List Nat) (lo hi : Option (List Nat)) (n w : Nat) (m : List Nat) : Prop where
  least : LeastB true L es lo hi 1 n
  eq : m = low L w n
  own : ow L es w = true
  ge : valO L lo n + 1 ≤ w
  lt : w < aheadN hi (highO L hi n) n
  at_ : (ob L es w : Int) = (ob L es (valO L lo n + 1) : Int) + toldI lo hi (roomI L es lo hi n)
end L2

set_option Elab.async false
set_option linter.all false
set_option maxRecDepth 100000
set_option maxHeartbeats 4000000
namespace L2
open PySem PySem.Spec PyProof.Rows MM
/-! ### the draw by divisions -/
def rdDraw2 (K : PySem.W.Frag) : TS :=
    tSeq (tAsg (tIf (tTest (tOp rGtI (tCB (rLenL K) (tCons (tVar 0) tNil)) (tC (.int 0)))) (tOp (rIxL K) (tVar 0) (tOp rModI (tVar 1) (tCB (rLenL K) (tCons (tVar 0) tNil)))) (tC (.int 0))) (gName 3))
      (tSeq (tIfS (tAnd (tTest (tOp rGtI (tCB (rLenL K) (tCons (tVar 0) tNil)) (tC (.int 0)))) (tTest (tOp rEq (tOp rModI (tOp rDivI (tOp (rIxL K) (tVar 0) (tC (.int 0))) (tC (.int 7))) (tC (.int 2))) (tC (.int 1))))) (tSeq (tFor (iRng1 (tCons (tOp rModI (tOp rDivI (tVar 1) (tCB (rLenL K) (tCons (tVar 0) tNil))) (tC (.int 60))) tNil)) (gName 4) (tAsg (tOp rDivI (tVar 3) (tC (.int 1000003))) (gName 3)))
      (tRet (tOp rModI (tOp rModI (tVar 3) (tC (.int 1000003))) (tVar 2)))) (tNext))
      (tSeq (tAsg (tOp rAddI (tOp rAddI (tOp rModI (tVar 3) (tC (.int 1000003))) (tOp rMulI (tOp rMulI (tC (.int 31)) (tVar 1)) (tVar 1))) (tC (.int 1))) (gName 5))
      (tRet (tOp rModI (tOp rModI (tOp rMulI (tOp rModI (tOp rMulI (tVar 5) (tC (.int 48271))) (tC (.int 999983))) (tC (.int 7919))) (tC (.int 524287))) (tVar 2)))))
theorem read_draw2 {K : PySem.W.Frag} {N : List Str} {vs : List V} {H : Hp} {Q : VK} {E : XK} (hN : N.length = 6) (h : spDraw K vs H Q E) : rdDraw2 K { nx := fun _ H' => Q .non H', rt := Q } (L2.start N vs) H := by
  obtain ⟨a, ns, k, m, rfl, hS, hl, h0, h1, h2, q⟩ := h
  unfold rdDraw2 L2.start
  rw [hN]
  simp only [tCompSet, tRaise, tIsi, tSeq, tAsg, gName, tOp, tUn, tVar, tC, tTest, tB, tIf, tIfS, tAnd, tOr, tNot, tAndV, tOrV, tNotV, tRet, tRetN, tNext, tDrop, tCB, tCons, tNil, tBM, tBM0, tCall, tLst, tTup, tSl, tPart, tNoPart, tIsN, tNotN, tYes, tBreak, tCont, rI0, rI, rU, rEq, rNe, L2.start, compSt, List.map_cons, List.map_nil, List.length_cons, List.length_nil, List.replicate_succ, List.replicate_zero, List.cons_append, List.nil_append, List.append_nil, List.getElem?_cons_zero, List.getElem?_cons_succ, List.set_cons_zero, List.set_cons_succ, Option.some.injEq, Option.join_some, V.int.injEq, V.str.injEq, V.bl.injEq, V.ref.injEq, txt_inj, exists_eq_left', exists_eq_left, exists_and_left, and_true, true_and, decide_eq_true_eq, reduceCtorEq, decide_false, decide_true, Bool.not_false, Bool.not_true, if_true, if_false, Bool.false_eq_true, Nat.reduceAdd, Nat.reduceSub, Bool.not_eq_true', decide_eq_false_iff_not, not_true_eq_false, not_false_eq_true]
  refine lenI_go hS ⟨_, rfl, ?_⟩
  by_cases hn : (0 : Int) < (ns.length : Int)
  · rw [if_pos hn]
    refine lenI_go hS ⟨_, rfl, hn, ixI_go hS (Int.emod_nonneg _ (by omega)) (Int.emod_lt_of_pos _ hn) fun z _ _ => ?_⟩
    refine lenI_go hS ⟨_, rfl, ?_⟩
    rw [if_pos hn]
    refine ixI_go hS (by decide) hn fun z0 _ _ => ⟨_, rfl, cdiv (by decide) (by decide), by decide, rfl, ?_⟩
    split
    · have e0 : 0 ≤ k / (ns.length : Int) % 60 := Int.emod_nonneg _ (by decide)
      have e1 : k / (ns.length : Int) % 60 < 60 := Int.emod_lt_of_pos _ (by decide)
      refine for_r1 (j := k / (ns.length : Int) % 60) (fun Q h => by
        simp only [tCompSet, tRaise, tIsi, tSeq, tAsg, gName, tOp, tUn, tVar, tC, tTest, tB, tIf, tIfS, tAnd, tOr, tNot, tAndV, tOrV, tNotV, tRet, tRetN, tNext, tDrop, tCB, tCons, tNil, tBM, tBM0, tCall, tLst, tTup, tSl, tPart, tNoPart, tIsN, tNotN, tYes, tBreak, tCont, rI0, rI, rU, rEq, rNe, L2.start, compSt, List.map_cons, List.map_nil, List.length_cons, List.length_nil, List.replicate_succ, List.replicate_zero, List.cons_append, List.nil_append, List.append_nil, List.getElem?_cons_zero, List.getElem?_cons_succ, List.set_cons_zero, List.set_cons_succ, Option.some.injEq, Option.join_some, V.int.injEq, V.str.injEq, V.bl.injEq, V.ref.injEq, txt_inj, exists_eq_left', exists_eq_left, exists_and_left, and_true, true_and, decide_eq_true_eq, reduceCtorEq, decide_false, decide_true, Bool.not_false, Bool.not_true, if_true, if_false, Bool.false_eq_true, Nat.reduceAdd, Nat.reduceSub, Bool.not_eq_true', decide_eq_false_iff_not, not_true_eq_false, not_false_eq_true]
        exact lenI_go hS ⟨_, rfl, cdiv hn (by omega), by decide, h⟩) (by omega) (by omega) (fun i σ H' => H' = H ∧ ∃ (c : Int) (v4 : Option V), σ = [some (.ref a), some (.int k), some (.int m), some (.int c), v4, none]) ⟨rfl, _, _, rfl⟩ ?_ ?_
      · rintro i σ H1 hi ⟨rfl, c, v4, rfl⟩
        simp only [tCompSet, tRaise, tIsi, tSeq, tAsg, gName, tOp, tUn, tVar, tC, tTest, tB, tIf, tIfS, tAnd, tOr, tNot, tAndV, tOrV, tNotV, tRet, tRetN, tNext, tDrop, tCB, tCons, tNil, tBM, tBM0, tCall, tLst, tTup, tSl, tPart, tNoPart, tIsN, tNotN, tYes, tBreak, tCont, rI0, rI, rU, rEq, rNe, L2.start, compSt, List.map_cons, List.map_nil, List.length_cons, List.length_nil, List.replicate_succ, List.replicate_zero, List.cons_append, List.nil_append, List.append_nil, List.getElem?_cons_zero, List.getElem?_cons_succ, List.set_cons_zero, List.set_cons_succ, Option.some.injEq, Option.join_some, V.int.injEq, V.str.injEq, V.bl.injEq, V.ref.injEq, txt_inj, exists_eq_left', exists_eq_left, exists_and_left, and_true, true_and, decide_eq_true_eq, reduceCtorEq, decide_false, decide_true, Bool.not_false, Bool.not_true, if_true, if_false, Bool.false_eq_true, Nat.reduceAdd, Nat.reduceSub, Bool.not_eq_true', decide_eq_false_iff_not, not_true_eq_false, not_false_eq_true]
        exact ⟨cdiv (by decide) (by decide), _, _, rfl⟩
      · rintro σ H1 ⟨rfl, c, v4, rfl⟩
        simp only [tCompSet, tRaise, tIsi, tSeq, tAsg, gName, tOp, tUn, tVar, tC, tTest, tB, tIf, tIfS, tAnd, tOr, tNot, tAndV, tOrV, tNotV, tRet, tRetN, tNext, tDrop, tCB, tCons, tNil, tBM, tBM0, tCall, tLst, tTup, tSl, tPart, tNoPart, tIsN, tNotN, tYes, tBreak, tCont, rI0, rI, rU, rEq, rNe, L2.start, compSt, List.map_cons, List.map_nil, List.length_cons, List.length_nil, List.replicate_succ, List.replicate_zero, List.cons_append, List.nil_append, List.append_nil, List.getElem?_cons_zero, List.getElem?_cons_succ, List.set_cons_zero, List.set_cons_succ, Option.some.injEq, Option.join_some, V.int.injEq, V.str.injEq, V.bl.injEq, V.ref.injEq, txt_inj, exists_eq_left', exists_eq_left, exists_and_left, and_true, true_and, decide_eq_true_eq, reduceCtorEq, decide_false, decide_true, Bool.not_false, Bool.not_true, if_true, if_false, Bool.false_eq_true, Nat.reduceAdd, Nat.reduceSub, Bool.not_eq_true', decide_eq_false_iff_not, not_true_eq_false, not_false_eq_true]
        exact ⟨by decide, h2, q _ (Int.emod_nonneg _ (by omega)) (Int.emod_lt_of_pos _ h2)⟩
    · exact ⟨_, rfl, draw_end (Q := fun r => Q (.int r) H) h0 h1 h2 q⟩
  · rw [if_neg hn]
    refine lenI_go hS ⟨_, rfl, ?_⟩
    rw [if_neg hn]
    exact draw_end (Q := fun r => Q (.int r) H) h0 h1 h2 q
/-! ### how marks grow -/
end L2

set_option Elab.async false
set_option linter.all false
set_option maxRecDepth 100000
set_option maxHeartbeats 4000000
/-! shared readings: spread, run_between -/
namespace L2
open PySem PySem.Spec PyProof.Rows MM
/-! ### evenly laid -/
theorem even_ge {i k R : Nat} (h : k ≤ R) : i + 1 ≤ (i + 1) * (R + 1) / (k + 1) := by
  rw [Nat.le_div_iff_mul_le (by omega)]
  exact Nat.mul_le_mul_left _ (by omega)
theorem even_lt {i k R : Nat} (h : i < k) : (i + 1) * (R + 1) / (k + 1) < R + 1 := by
  rw [Nat.div_lt_iff_lt_mul (by omega), Nat.mul_comm (R + 1)]
  exact Nat.mul_lt_mul_of_pos_right (by omega) (by omega)
def spSpread : Sp := fun vs H Q _ => ∃ (m W : Nat), vs = [.int m, .int W] ∧ m ≤ 100000 ∧ ∀ p, H p = none → Q (.ref p) (upd H p (.lst ((List.range m).map fun (k : Nat) => V.int (((k + 1) * W / (m + 1) : Nat) : Int))))
def rdSpread : TS := tRet (tComp (iRng1 (tCons (tVar 0) tNil)) [1, 0] tYes (tOp rDivI (tOp rMulI (tOp rAddI (tVar 0) (tC (.int 1))) (tVar 1)) (tOp rAddI (tVar 2) (tC (.int 1)))))
theorem read_spread {N : List Str} {vs : List V} {H : Hp} {Q : VK} {E : XK} (hN : N.length = 2) (h : spSpread vs H Q E) : rdSpread { nx := fun _ H' => Q .non H', rt := Q } (L2.start N vs) H := by
  obtain ⟨m, W, rfl, hm, q⟩ := h
  unfold rdSpread L2.start
  rw [hN]
  simp only [tCompSet, tRaise, tIsi, tSeq, tAsg, gName, tOp, tUn, tVar, tC, tTest, tB, tIf, tIfS, tAnd, tOr, tNot, tAndV, tOrV, tNotV, tRet, tRetN, tNext, tDrop, tCB, tCons, tNil, tBM, tBM0, tCall, tLst, tTup, tSl, tPart, tNoPart, tIsN, tNotN, tYes, tBreak, tCont, rI0, rI, rU, rEq, rNe, L2.start, compSt, List.map_cons, List.map_nil, List.length_cons, List.length_nil, List.replicate_succ, List.replicate_zero, List.cons_append, List.nil_append, List.append_nil, List.getElem?_cons_zero, List.getElem?_cons_succ, List.set_cons_zero, List.set_cons_succ, Option.some.injEq, Option.join_some, V.int.injEq, V.str.injEq, V.bl.injEq, V.ref.injEq, txt_inj, exists_eq_left', exists_eq_left, exists_and_left, and_true, true_and, decide_eq_true_eq, reduceCtorEq, decide_false, decide_true, Bool.not_false, Bool.not_true, if_true, if_false, Bool.false_eq_true, Nat.reduceAdd, Nat.reduceSub, Bool.not_eq_true', decide_eq_false_iff_not, not_true_eq_false, not_false_eq_true]
  refine comp_r1 (j := m) (fun Q h => ⟨_, rfl, h⟩) (by omega) (by omega) (Nat.le_trans (show (m : Int).toNat ≤ 100000 by omega) (by decide))
    (fun i ys H' => H' = H ∧ ys = (List.range i).map fun (k : Nat) => V.int (((k + 1) * W / (m + 1) : Nat) : Int)) ⟨rfl, rfl⟩
    (fun i ys H' _ p => by rw [p.2, List.length_map, List.length_range]; exact Nat.le_refl _) ?_ ?_
  · rintro i ys H' hi ⟨rfl, rfl⟩ R hR
    simp only [tCompSet, tRaise, tIsi, tSeq, tAsg, gName, tOp, tUn, tVar, tC, tTest, tB, tIf, tIfS, tAnd, tOr, tNot, tAndV, tOrV, tNotV, tRet, tRetN, tNext, tDrop, tCB, tCons, tNil, tBM, tBM0, tCall, tLst, tTup, tSl, tPart, tNoPart, tIsN, tNotN, tYes, tBreak, tCont, rI0, rI, rU, rEq, rNe, L2.start, compSt, List.map_cons, List.map_nil, List.length_cons, List.length_nil, List.replicate_succ, List.replicate_zero, List.cons_append, List.nil_append, List.append_nil, List.getElem?_cons_zero, List.getElem?_cons_succ, List.set_cons_zero, List.set_cons_succ, Option.some.injEq, Option.join_some, V.int.injEq, V.str.injEq, V.bl.injEq, V.ref.injEq, txt_inj, exists_eq_left', exists_eq_left, exists_and_left, and_true, true_and, decide_eq_true_eq, reduceCtorEq, decide_false, decide_true, Bool.not_false, Bool.not_true, if_true, if_false, Bool.false_eq_true, Nat.reduceAdd, Nat.reduceSub, Bool.not_eq_true', decide_eq_false_iff_not, not_true_eq_false, not_false_eq_true]
    refine ⟨mulB_l (by omega) (by omega), cdiv (by omega) (by omega), hR _ _ ⟨rfl, ?_⟩⟩
    rw [List.range_succ, List.map_append, List.map_cons, List.map_nil, Int.natCast_ediv, Int.natCast_mul]
    rfl
  · rintro ys H' ⟨rfl, rfl⟩ p hp
    rw [Int.toNat_natCast]
    exact q p hp
/-! ### run_between -/
/-- what the i-th of a run is -/
structure RunAt (L : Nat) (es : List Nat) (lo hi : Option (List Nat)) (n k R i w : Nat) : Prop where
  own : ow L es w = true
  ge : valO L lo n + 1 ≤ w
  lt : w < aheadN hi (highO L hi n) n
  at_ : ob L es w = ob L es (valO L lo n + 1) + ((i + 1) * (R + 1) / (k + 1) - 1)
end L2

set_option Elab.async false
set_option linter.all false
set_option maxRecDepth 100000
set_option maxHeartbeats 4000000
/-! shared readings: renewed_long, renewed -/
namespace L2
open PySem PySem.Spec PyProof.Rows MM
/-- n is the least number of letters up to which there are m marks -/
structure IsRen (L m n : Nat) : Prop where
  lt : m < L ^ n
  less : ∀ i, i < n → L ^ i ≤ m
theorem IsRen.one {L m a b : Nat} (A : IsRen L m a) (B : IsRen L m b) : a = b := by
  rcases Nat.lt_trichotomy a b with h | h | h
  · have := B.less a h; have := A.lt; omega
  · exact h
  · have := A.less b h; have := B.lt; omega
theorem IsRen.le {L m n : Nat} (A : IsRen L m n) (hL : 2 ≤ L) : n ≤ m := by
  rcases Nat.lt_or_ge m n with h | h
  · have h1 := A.less m h
    have := Nat.lt_pow_self (n := m) (show 1 < L by omega)
    omega
  · exact h
def spRenLong : Sp := fun vs H Q _ => ∃ (L m : Nat), vs = [.int L, .int m] ∧ 2 ≤ L ∧ L ≤ 26 ∧ ∀ n, IsRen L m n → Q (.int n) H
def rdRenLong : TS :=
    tSeq (tAsg (tC (.int 0)) (gName 2))
      (tSeq (tAsg (tC (.int 1)) (gName 3))
      (tSeq (tWhile (tTest (tOp rLtI (tOp rSubI (tVar 3) (tC (.int 1))) (tVar 1))) (tSeq (tAsg (tOp rMulI (tVar 3) (tVar 0)) (gName 3))
      (tAsg (tOp rAddI (tVar 2) (tC (.int 1))) (gName 2))))
      (tRet (tVar 2))))
theorem read_renLong {N : List Str} {vs : List V} {H : Hp} {Q : VK} {E : XK} (hN : N.length = 4) (h : spRenLong vs H Q E) : rdRenLong { nx := fun _ H' => Q .non H', rt := Q } (L2.start N vs) H := by
  obtain ⟨L, m, rfl, hL, hL26, q⟩ := h
  unfold rdRenLong L2.start
  rw [hN]
  simp only [tCompSet, tRaise, tIsi, tSeq, tAsg, gName, tOp, tUn, tVar, tC, tTest, tB, tIf, tIfS, tAnd, tOr, tNot, tAndV, tOrV, tNotV, tRet, tRetN, tNext, tDrop, tCB, tCons, tNil, tBM, tBM0, tCall, tLst, tTup, tSl, tPart, tNoPart, tIsN, tNotN, tYes, tBreak, tCont, rI0, rI, rU, rEq, rNe, L2.start, compSt, List.map_cons, List.map_nil, List.length_cons, List.length_nil, List.replicate_succ, List.replicate_zero, List.cons_append, List.nil_append, List.append_nil, List.getElem?_cons_zero, List.getElem?_cons_succ, List.set_cons_zero, List.set_cons_succ, Option.some.injEq, Option.join_some, V.int.injEq, V.str.injEq, V.bl.injEq, V.ref.injEq, txt_inj, exists_eq_left', exists_eq_left, exists_and_left, and_true, true_and, decide_eq_true_eq, reduceCtorEq, decide_false, decide_true, Bool.not_false, Bool.not_true, if_true, if_false, Bool.false_eq_true, Nat.reduceAdd, Nat.reduceSub, Bool.not_eq_true', decide_eq_false_iff_not, not_true_eq_false, not_false_eq_true]
  refine while_of (fun x σ H' => H' = H ∧ ∃ (n : Nat), σ = [some (.int L), some (.int m), some (.int n), some (.int (L ^ n : Nat))] ∧ x = m + 1 - n ∧ ∀ i, i < n → L ^ i ≤ m) (m + 1) ⟨rfl, 0, rfl, by omega, fun i hi => by omega⟩ ?_
  rintro x σ H2 ⟨rfl, n, rfl, hx, hp⟩ R hgo hstop
  simp only [tCompSet, tRaise, tIsi, tSeq, tAsg, gName, tOp, tUn, tVar, tC, tTest, tB, tIf, tIfS, tAnd, tOr, tNot, tAndV, tOrV, tNotV, tRet, tRetN, tNext, tDrop, tCB, tCons, tNil, tBM, tBM0, tCall, tLst, tTup, tSl, tPart, tNoPart, tIsN, tNotN, tYes, tBreak, tCont, rI0, rI, rU, rEq, rNe, L2.start, compSt, List.map_cons, List.map_nil, List.length_cons, List.length_nil, List.replicate_succ, List.replicate_zero, List.cons_append, List.nil_append, List.append_nil, List.getElem?_cons_zero, List.getElem?_cons_succ, List.set_cons_zero, List.set_cons_succ, Option.some.injEq, Option.join_some, V.int.injEq, V.str.injEq, V.bl.injEq, V.ref.injEq, txt_inj, exists_eq_left', exists_eq_left, exists_and_left, and_true, true_and, decide_eq_true_eq, reduceCtorEq, decide_false, decide_true, Bool.not_false, Bool.not_true, if_true, if_false, Bool.false_eq_true, Nat.reduceAdd, Nat.reduceSub, Bool.not_eq_true', decide_eq_false_iff_not, not_true_eq_false, not_false_eq_true]
  have hpow := Nat.lt_pow_self (n := n) (show 1 < L by omega)
  by_cases h1 : ((L ^ n : Nat) : Int) - 1 < (m : Int)
  · rw [decide_eq_true h1]
    refine hgo _ ?_
    simp only [tCompSet, tRaise, tIsi, tSeq, tAsg, gName, tOp, tUn, tVar, tC, tTest, tB, tIf, tIfS, tAnd, tOr, tNot, tAndV, tOrV, tNotV, tRet, tRetN, tNext, tDrop, tCB, tCons, tNil, tBM, tBM0, tCall, tLst, tTup, tSl, tPart, tNoPart, tIsN, tNotN, tYes, tBreak, tCont, rI0, rI, rU, rEq, rNe, L2.start, compSt, List.map_cons, List.map_nil, List.length_cons, List.length_nil, List.replicate_succ, List.replicate_zero, List.cons_append, List.nil_append, List.append_nil, List.getElem?_cons_zero, List.getElem?_cons_succ, List.set_cons_zero, List.set_cons_succ, Option.some.injEq, Option.join_some, V.int.injEq, V.str.injEq, V.bl.injEq, V.ref.injEq, txt_inj, exists_eq_left', exists_eq_left, exists_and_left, and_true, true_and, decide_eq_true_eq, reduceCtorEq, decide_false, decide_true, Bool.not_false, Bool.not_true, if_true, if_false, Bool.false_eq_true, Nat.reduceAdd, Nat.reduceSub, Bool.not_eq_true', decide_eq_false_iff_not, not_true_eq_false, not_false_eq_true]
    refine ⟨mulB_r (by omega) (by omega), m + 1 - (n + 1), by omega, n + 1, by rw [Nat.pow_succ, Int.natCast_mul]; rfl, rfl, fun i hi => ?_⟩
    by_cases e : i = n
    · subst e; omega
    · exact hp i (by omega)
  · rw [decide_eq_false h1]
    refine hstop _ ?_
    simp only [tCompSet, tRaise, tIsi, tSeq, tAsg, gName, tOp, tUn, tVar, tC, tTest, tB, tIf, tIfS, tAnd, tOr, tNot, tAndV, tOrV, tNotV, tRet, tRetN, tNext, tDrop, tCB, tCons, tNil, tBM, tBM0, tCall, tLst, tTup, tSl, tPart, tNoPart, tIsN, tNotN, tYes, tBreak, tCont, rI0, rI, rU, rEq, rNe, L2.start, compSt, List.map_cons, List.map_nil, List.length_cons, List.length_nil, List.replicate_succ, List.replicate_zero, List.cons_append, List.nil_append, List.append_nil, List.getElem?_cons_zero, List.getElem?_cons_succ, List.set_cons_zero, List.set_cons_succ, Option.some.injEq, Option.join_some, V.int.injEq, V.str.injEq, V.bl.injEq, V.ref.injEq, txt_inj, exists_eq_left', exists_eq_left, exists_and_left, and_true, true_and, decide_eq_true_eq, reduceCtorEq, decide_false, decide_true, Bool.not_false, Bool.not_true, if_true, if_false, Bool.false_eq_true, Nat.reduceAdd, Nat.reduceSub, Bool.not_eq_true', decide_eq_false_iff_not, not_true_eq_false, not_false_eq_true]
    exact q n ⟨by omega, hp⟩
def renW (L m n k : Nat) : Nat := (k + 1) * L ^ n / (m + 1)
def renL (L m n : Nat) : List (List Nat) := (List.range m).map fun k => mk L (renW L m n k) n
theorem renW_in {L m n k : Nat} (R : IsRen L m n) (hk : k < m) : 0 < renW L m n k ∧ renW L m n k < L ^ n := by
  have h := R.lt
  obtain ⟨r, hr⟩ : ∃ r, L ^ n = r + 1 := ⟨L ^ n - 1, by omega⟩
  unfold renW
  rw [hr]
  have := even_ge (i := k) (k := m) (R := r) (by omega)
  have := even_lt (R := r) hk
  omega
theorem renL_mem {L m n : Nat} (hL : 0 < L) (R : IsRen L m n) : ∀ x ∈ renL L m n, Mark L x ∧ x.length ≤ n := fun x hx => by
  unfold renL at hx
  obtain ⟨k, hk, rfl⟩ := List.mem_map.mp hx
  have a := renW_in R (List.mem_range.mp hk)
  exact ⟨mk_mark hL a.1 a.2, mk_len _ _ _⟩
theorem renL_len (L m n : Nat) : (renL L m n).length = m := by
  unfold renL
  rw [List.length_map, List.length_range]
theorem renL_get {L m n k : Nat} (h : k < m) : (renL L m n)[k]? = some (mk L (renW L m n k) n) := by
  unfold renL
  rw [List.getElem?_map, List.getElem?_range h]
  rfl
def spRenewed : Sp := fun vs H Q _ => ∃ (L m : Nat), vs = [.int L, .int m] ∧ 2 ≤ L ∧ L ≤ 26 ∧ m ≤ 10000 ∧ ∀ H' n p, IsRen L m n → Same H H' → H' p = none → Q (.ref p) (upd H' p (.lst ((renL L m n).map strV)))
def rdRenewed (K : PySem.W.Frag) : TS :=
    tSeq (tAsg (tCall spRenLong [] E0 (tCons (tVar 0) (tCons (tVar 1) tNil))) (gName 2))
      (tRet (tComp (iList K (tCall spSpread [] E0 (tCons (tVar 1) (tCons (tCall spPower [] E0 (tCons (tVar 0) (tCons (tVar 2) tNil))) tNil)))) [0, 2] tYes (tCall spMarkOf [] E0 (tCons (tVar 1) (tCons (tVar 0) (tCons (tVar 2) tNil))))))
theorem read_renewed {K : PySem.W.Frag} {N : List Str} {vs : List V} {H : Hp} {Q : VK} {E : XK} (hN : N.length = 3) (h : spRenewed vs H Q E) : rdRenewed K { nx := fun _ H' => Q .non H', rt := Q } (L2.start N vs) H := by
  obtain ⟨L, m, rfl, hL, hL26, hm, q⟩ := h
  unfold rdRenewed L2.start
  rw [hN]
  simp only [tCompSet, tRaise, tIsi, tSeq, tAsg, gName, tOp, tUn, tVar, tC, tTest, tB, tIf, tIfS, tAnd, tOr, tNot, tAndV, tOrV, tNotV, tRet, tRetN, tNext, tDrop, tCB, tCons, tNil, tBM, tBM0, tCall, tLst, tTup, tSl, tPart, tNoPart, tIsN, tNotN, tYes, tBreak, tCont, rI0, rI, rU, rEq, rNe, L2.start, compSt, List.map_cons, List.map_nil, List.length_cons, List.length_nil, List.replicate_succ, List.replicate_zero, List.cons_append, List.nil_append, List.append_nil, List.getElem?_cons_zero, List.getElem?_cons_succ, List.set_cons_zero, List.set_cons_succ, Option.some.injEq, Option.join_some, V.int.injEq, V.str.injEq, V.bl.injEq, V.ref.injEq, txt_inj, exists_eq_left', exists_eq_left, exists_and_left, and_true, true_and, decide_eq_true_eq, reduceCtorEq, decide_false, decide_true, Bool.not_false, Bool.not_true, if_true, if_false, Bool.false_eq_true, Nat.reduceAdd, Nat.reduceSub, Bool.not_eq_true', decide_eq_false_iff_not, not_true_eq_false, not_false_eq_true]
  refine ⟨L, m, rfl, hL, hL26, fun n R => ?_⟩
  have hn := R.le hL
  refine comp_by fun R0 hR0 => ?_
  simp only [iList, tCompSet, tRaise, tIsi, tSeq, tAsg, gName, tOp, tUn, tVar, tC, tTest, tB, tIf, tIfS, tAnd, tOr, tNot, tAndV, tOrV, tNotV, tRet, tRetN, tNext, tDrop, tCB, tCons, tNil, tBM, tBM0, tCall, tLst, tTup, tSl, tPart, tNoPart, tIsN, tNotN, tYes, tBreak, tCont, rI0, rI, rU, rEq, rNe, L2.start, compSt, List.map_cons, List.map_nil, List.length_cons, List.length_nil, List.replicate_succ, List.replicate_zero, List.cons_append, List.nil_append, List.append_nil, List.getElem?_cons_zero, List.getElem?_cons_succ, List.set_cons_zero, List.set_cons_succ, Option.some.injEq, Option.join_some, V.int.injEq, V.str.injEq, V.bl.injEq, V.ref.injEq, txt_inj, exists_eq_left', exists_eq_left, exists_and_left, and_true, true_and, decide_eq_true_eq, reduceCtorEq, decide_false, decide_true, Bool.not_false, Bool.not_true, if_true, if_false, Bool.false_eq_true, Nat.reduceAdd, Nat.reduceSub, Bool.not_eq_true', decide_eq_false_iff_not, not_true_eq_false, not_false_eq_true]
  refine ⟨L, n, rfl, hL26, by omega, ?_⟩
  refine ⟨m, L ^ n, rfl, by omega, fun p hp => ?_⟩
  refine ⟨_, rfl, ⟨_, SqL.here⟩, ?_⟩
  rw [hR0]
  refine comp_lst (xs := (List.range m).map fun (k : Nat) => V.int (((k + 1) * L ^ n / (m + 1) : Nat) : Int)) (fun i ys H' => H' = upd H p (.lst ((List.range m).map fun (k : Nat) => V.int (((k + 1) * L ^ n / (m + 1) : Nat) : Int))) ∧ ys = ((List.range i).map fun k => mk L (renW L m n k) n).map strV) ⟨rfl, rfl⟩
    (fun i ys H' _ p => ⟨by rw [p.1]; exact SqL.here, by rw [p.2, List.length_map, List.length_map, List.length_range]; exact Nat.le_refl _⟩) (by rw [List.length_map, List.length_range, sizeLine_eq]; omega) ?_ ?_
  · rintro i x ys H' hx ⟨rfl, rfl⟩ R1 hR1
    rw [List.getElem?_map] at hx
    have hik : i < m := by
      rcases Nat.lt_or_ge i m with z | z
      · exact z
      · rw [List.getElem?_eq_none (by rw [List.length_range]; exact z)] at hx; cases hx
    rw [List.getElem?_range hik] at hx
    cases Option.some.inj hx
    simp only [tCompSet, tRaise, tIsi, tSeq, tAsg, gName, tOp, tUn, tVar, tC, tTest, tB, tIf, tIfS, tAnd, tOr, tNot, tAndV, tOrV, tNotV, tRet, tRetN, tNext, tDrop, tCB, tCons, tNil, tBM, tBM0, tCall, tLst, tTup, tSl, tPart, tNoPart, tIsN, tNotN, tYes, tBreak, tCont, rI0, rI, rU, rEq, rNe, L2.start, compSt, List.map_cons, List.map_nil, List.length_cons, List.length_nil, List.replicate_succ, List.replicate_zero, List.cons_append, List.nil_append, List.append_nil, List.getElem?_cons_zero, List.getElem?_cons_succ, List.set_cons_zero, List.set_cons_succ, Option.some.injEq, Option.join_some, V.int.injEq, V.str.injEq, V.bl.injEq, V.ref.injEq, txt_inj, exists_eq_left', exists_eq_left, exists_and_left, and_true, true_and, decide_eq_true_eq, reduceCtorEq, decide_false, decide_true, Bool.not_false, Bool.not_true, if_true, if_false, Bool.false_eq_true, Nat.reduceAdd, Nat.reduceSub, Bool.not_eq_true', decide_eq_false_iff_not, not_true_eq_false, not_false_eq_true]
    refine ⟨L, renW L m n i, n, rfl, by omega, hL26, by omega, hR1 _ _ ⟨rfl, ?_⟩⟩
    rw [List.range_succ, List.map_append, List.map_append, List.map_cons, List.map_nil, List.map_cons, List.map_nil]
    rfl
  · rintro ys H' ⟨rfl, rfl⟩ p2 hp2
    rw [List.length_map, List.length_range]
    exact q _ n p2 R (Same.up _ hp) hp2
end L2

set_option Elab.async false
set_option linter.all false
set_option maxRecDepth 100000
set_option maxHeartbeats 4000000
/-! lists of pairs; renewal_rows -/
namespace L2
open PySem PySem.Spec PyProof.Rows MM
/-- the items are pairs -/
def Prs (H : Hp) : List V → List (V × V) → Prop
  | [], [] => True
  | x :: xs, p :: ps => (∃ t, x = .ref t ∧ H t = some (.tup [p.1, p.2])) ∧ Prs H xs ps
  | _, _ => False
theorem Prs.keep {H H' : Hp} (k : ∀ t ys, H t = some (.tup ys) → H' t = some (.tup ys)) : ∀ {xs : List V} {ps : List (V × V)}, Prs H xs ps → Prs H' xs ps
  | [], [], _ => trivial
  | [], _ :: _, h => h.elim
  | _ :: _, [], h => h.elim
  | _ :: _, _ :: _, ⟨⟨t, e, h⟩, r⟩ => ⟨⟨t, e, k t _ h⟩, Prs.keep k r⟩
theorem Prs.same {H H' : Hp} {xs : List V} {ps : List (V × V)} (h : Prs H xs ps) (s : Same H H') : Prs H' xs ps := h.keep fun t ys e => s t _ e
theorem Prs.app {H : Hp} : ∀ {xs : List V} {ps : List (V × V)} {ys : List V} {qs : List (V × V)}, Prs H xs ps → Prs H ys qs → Prs H (xs ++ ys) (ps ++ qs)
  | [], [], _, _, _, h => h
  | [], _ :: _, _, _, h, _ => h.elim
  | _ :: _, [], _, _, h, _ => h.elim
  | _ :: _, _ :: _, _, _, ⟨a, r⟩, h => ⟨a, Prs.app r h⟩
theorem Prs.len {H : Hp} : ∀ {xs : List V} {ps : List (V × V)}, Prs H xs ps → xs.length = ps.length
  | [], [], _ => rfl
  | [], _ :: _, h => h.elim
  | _ :: _, [], h => h.elim
  | _ :: _, _ :: _, ⟨_, r⟩ => by rw [List.length_cons, List.length_cons, Prs.len r]
theorem Prs.get {H : Hp} : ∀ {xs : List V} {ps : List (V × V)} {i : Nat} {x : V}, Prs H xs ps → xs[i]? = some x → ∃ p t, ps[i]? = some p ∧ x = .ref t ∧ H t = some (.tup [p.1, p.2])
  | [], _, _, _, _, e => by simp at e
  | _ :: _, [], _, _, h, _ => h.elim
  | _ :: _, p :: _, 0, _, ⟨⟨t, e1, h⟩, _⟩, e => by
    have : _ = _ := Option.some.inj e
    subst this
    exact ⟨p, t, rfl, e1, h⟩
  | _ :: _, _ :: _, i + 1, _, ⟨_, r⟩, e => by
    obtain ⟨p, t, a, b, c⟩ := Prs.get r (i := i) (by simpa using e)
    exact ⟨p, t, by simpa using a, b, c⟩
/-- values without parts, as data -/
def flatD : V → PyData
  | .bl b => .bool b
  | .int i => .int i
  | .str x => .str x
  | _ => .none
inductive OkV : V → Prop where
  | non : OkV .non
  | bl (b : Bool) : OkV (.bl b)
  | str {l : List Nat} (h : PyData.strOk (txt l) = true) : OkV (.str (txt l))
theorem OkV.dat {K : PySem.W.Frag} {H : Hp} {v : V} (h : OkV v) : Dat K H v (flatD v) := by
  cases h with
  | non => exact .non
  | bl b => exact .bl b
  | str h => exact .str _
def pairD (ps : List (V × V)) : List PyData := ps.map fun p => .tuple [flatD p.1, flatD p.2]
theorem Prs.dat {K : PySem.W.Frag} {H : Hp} : ∀ {xs : List V} {ps : List (V × V)}, Prs H xs ps → (∀ p ∈ ps, OkV p.1 ∧ OkV p.2) → DatAll K H xs (pairD ps)
  | [], [], _, _ => .nil
  | [], _ :: _, h, _ => h.elim
  | _ :: _, [], h, _ => h.elim
  | _ :: _, p :: _, ⟨⟨t, e, h⟩, r⟩, ok => by
    subst e
    have o := ok p List.mem_cons_self
    exact .cons (.tup (SqT.of h) (.cons o.1.dat (.cons o.2.dat .nil))) (Prs.dat r fun q hq => ok q (List.mem_cons_of_mem _ hq))
theorem lay_flat {v : V} (h : OkV v) : PyData.canLay0 (flatD v) = true ∧ PyData.depth (flatD v) = 0 := by
  cases h with
  | non => exact ⟨by simp [flatD, PyData.canLay0], by simp [flatD, PyData.depth]⟩
  | bl b => exact ⟨by simp [flatD, PyData.canLay0], by simp [flatD, PyData.depth]⟩
  | str h => exact ⟨by simp [flatD, PyData.canLay0, h], by simp [flatD, PyData.depth]⟩
theorem lay_pairs : ∀ {ps : List (V × V)}, (∀ p ∈ ps, OkV p.1 ∧ OkV p.2) → PyData.canLayAll0 (pairD ps) = true ∧ PyData.depthAll (pairD ps) ≤ 1
  | [], _ => ⟨by simp [pairD, PyData.canLayAll0], by simp [pairD, PyData.depthAll]⟩
  | p :: ps, ok => by
    obtain ⟨a, b⟩ := lay_pairs fun q hq => ok q (List.mem_cons_of_mem _ hq)
    obtain ⟨o1, o2⟩ := ok p List.mem_cons_self
    obtain ⟨c1, d1⟩ := lay_flat o1
    obtain ⟨c2, d2⟩ := lay_flat o2
    have e : pairD (p :: ps) = .tuple [flatD p.1, flatD p.2] :: pairD ps := rfl
    rw [e]
    refine ⟨by simp [PyData.canLayAll0, PyData.canLay0, c1, c2, a], ?_⟩
    simp only [PyData.depthAll, PyData.depth, d1, d2]
    omega
theorem shaped_pairs {ps : List (V × V)} (ok : ∀ p ∈ ps, OkV p.1 ∧ OkV p.2) : SeqAt.shaped (.list (pairD ps)) = true := by
  obtain ⟨a, b⟩ := lay_pairs ok
  unfold SeqAt.shaped
  rw [Bool.and_eq_true]
  refine ⟨by simpa [PyData.canLay0] using a, ?_⟩
  rw [decide_eq_true_eq]
  simp only [PyData.depth]
  omega
/-- two lists of the same pairs are equal -/
theorem eq_pairs {K : PySem.W.Frag} {H : Hp} {a b : Addr} {xs ys : List V} {ps : List (V × V)} {Q : VK} (ha : SqL K H a xs) (hb : SqL K H b ys) (pa : Prs H xs ps) (pb : Prs H ys ps) (ok : ∀ p ∈ ps, OkV p.1 ∧ OkV p.2) (q : Q (.bl false) H) : rNeD K (.ref a) (.ref b) H Q := by
  refine ⟨.list (pairD ps), .list (pairD ps), .lst ha (pa.dat ok), .lst hb (pb.dat ok), shaped_pairs ok, shaped_pairs ok, ?_⟩
  rw [SeqAt.eqv_refl _ (SeqAt.canLay_of_shaped (shaped_pairs ok))]
  exact q
def kP (k : List Nat × Bool) : V × V := (strV k.1, .bl k.2)
def stand (ks : List (List Nat × Bool)) : Nat := (ks.filter fun k => k.2).length
def rowsFrom (fr : List (List Nat)) : Nat → List (List Nat × Bool) → List (V × V)
  | _, [] => []
  | g, (m, true) :: ks => (strV m, strV (fr.getD g [])) :: rowsFrom fr (g + 1) ks
  | g, (m, false) :: ks => (strV m, .non) :: rowsFrom fr g ks
theorem stand_cons (m : List Nat) (b : Bool) (ks : List (List Nat × Bool)) : stand ((m, b) :: ks) = stand ks + (if b = true then 1 else 0) := by
  unfold stand
  cases b
  · rw [List.filter_cons_of_neg (by simp)]; rfl
  · rw [List.filter_cons_of_pos (by simp)]; rfl
theorem stand_le (ks : List (List Nat × Bool)) : stand ks ≤ ks.length := List.length_filter_le _ _
/-- [m for m, s in known if s] -/
theorem comp_stand {K : PySem.W.Frag} {tl : TE} {p : Addr} {xs : List V} {σ : St} {H : Hp} {Q : VK} {ks : List (List Nat × Bool)} (ha : ∀ Q : VK, Q (.ref p) H → tl σ H Q) (hq : SqL K H p xs) (hp : Prs H xs (ks.map kP)) (hn : ks.length ≤ 100000)
    (hd : ∀ r, H r = none → Q (.ref r) (upd H r (.lst (((ks.filter fun k => k.2).map fun k => k.1).map strV)))) : tComp2 K (iList K tl) [] (tB (tVar 1)) (tVar 0) σ H Q := by
  have hl := hp.len
  rw [List.length_map] at hl
  refine comp2_l ha hq (fun i ys H' => H' = H ∧ ys = (((ks.take i).filter fun k => k.2).map fun k => k.1).map strV) ⟨rfl, rfl⟩ (fun i ys H' _ h => ⟨by rw [h.1]; exact hq, ?_⟩) (by rw [hl, sizeLine_eq]; omega) ?_ ?_
  · rw [h.2, List.length_map, List.length_map]
    exact Nat.le_trans (List.length_filter_le _ _) (by rw [List.length_take]; omega)
  · rintro i x ys H' hx ⟨rfl, rfl⟩
    obtain ⟨q, t, e1, rfl, e2⟩ := hp.get hx
    rw [List.getElem?_map] at e1
    obtain ⟨⟨m, b⟩, e3, rfl⟩ := Option.map_eq_some_iff.mp e1
    refine ⟨t, _, _, rfl, SqT.of e2, fun R hR => ?_⟩
    simp only [kP, tCompSet, tRaise, tIsi, tSeq, tAsg, gName, tOp, tUn, tVar, tC, tTest, tB, tIf, tIfS, tAnd, tOr, tNot, tAndV, tOrV, tNotV, tRet, tRetN, tNext, tDrop, tCB, tCons, tNil, tBM, tBM0, tCall, tLst, tTup, tSl, tPart, tNoPart, tIsN, tNotN, tYes, tBreak, tCont, rI0, rI, rU, rEq, rNe, L2.start, compSt, List.map_cons, List.map_nil, List.length_cons, List.length_nil, List.replicate_succ, List.replicate_zero, List.cons_append, List.nil_append, List.append_nil, List.getElem?_cons_zero, List.getElem?_cons_succ, List.set_cons_zero, List.set_cons_succ, Option.some.injEq, Option.join_some, V.int.injEq, V.str.injEq, V.bl.injEq, V.ref.injEq, txt_inj, exists_eq_left', exists_eq_left, exists_and_left, and_true, true_and, decide_eq_true_eq, reduceCtorEq, decide_false, decide_true, Bool.not_false, Bool.not_true, if_true, if_false, Bool.false_eq_true, Nat.reduceAdd, Nat.reduceSub, Bool.not_eq_true', decide_eq_false_iff_not, not_true_eq_false, not_false_eq_true]
    rw [List.take_succ, e3] at hR
    cases b
    · rw [if_neg (by decide)]
      exact hR _ _ ⟨rfl, by simp⟩
    · rw [if_pos rfl]
      exact hR _ _ ⟨rfl, by simp [strV]⟩
  · rintro ys H' ⟨rfl, rfl⟩ r hr
    have := hd r hr
    rw [hl, List.take_length]
    exact this
def spRows (K : PySem.W.Frag) : Sp := fun vs H Q _ => ∃ (L : Nat) (p : Addr) (ks : List (List Nat × Bool)), vs = [.int L, .ref p] ∧ 2 ≤ L ∧ L ≤ 26 ∧ ks.length ≤ 1000 ∧ (∃ xs, SqL K H p xs ∧ Prs H xs (ks.map kP)) ∧
  ∀ H' r ys n, IsRen L (stand ks) n → Same H H' → H r = none → H' r = some (.lst ys) → Prs H' ys (rowsFrom (renL L (stand ks) n) 0 ks) → Q (.ref r) H'
def rdRows (K : PySem.W.Frag) : TS :=
    tSeq (tAsg (tCall spRenewed [] E0 (tCons (tVar 0) (tCons (tCB (rLenL K) (tCons (tComp2 K (iList K (tVar 1)) [] (tB (tVar 1)) (tVar 0)) tNil)) tNil))) (gName 2))
      (tSeq (tAsg (tLst tNil) (gName 3))
      (tSeq (tAsg (tC (.int 0)) (gName 4))
      (tSeq (tFor (iList K (tVar 1)) (gTup K 2 (gCons (gName 5) (gCons (gName 6) gNil))) (tIfS (tB (tVar 6)) (tSeq (tDrop (tBM K "list" rAppend (tVar 3) (tCons (tTup (tCons (tVar 5) (tCons (tOp (rIxL K) (tVar 2) (tVar 4)) tNil))) tNil)))
      (tAsg (tOp rAddI (tVar 4) (tC (.int 1))) (gName 4))) (tDrop (tBM K "list" rAppend (tVar 3) (tCons (tTup (tCons (tVar 5) (tCons (tC .non) tNil))) tNil)))))
      (tRet (tVar 3)))))
def RowsInv (L : Nat) (p p2 p3 : Addr) (H2 : Hp) (fr : List (List Nat)) (ks : List (List Nat × Bool)) : Nat → St → Hp → Prop := fun i σ H' => ∃ (g : Nat) (ys : List V) (ps : List (V × V)) (v5 v6 : Option V), Same H2 H' ∧ H' p3 = some (.lst ys) ∧ Prs H' ys ps ∧ σ = [some (.int L), some (.ref p), some (.ref p2), some (.ref p3), some (.int g), v5, v6] ∧ ps ++ rowsFrom fr g (ks.drop i) = rowsFrom fr 0 ks ∧ g + stand (ks.drop i) = stand ks ∧ ys.length = i
theorem keep_list {H : Hp} {t r : Addr} {o : HO} {ys zs : List V} (ht : H t = none) (hr : H r = some (.lst ys)) : ∀ u xs, H u = some (.tup xs) → (upd (upd H t o) r (.lst zs)) u = some (.tup xs) := fun u xs e => by
  rw [upd_ne (fun z => by subst z; rw [hr] at e; cases e), upd_ne (fun z => by subst z; rw [ht] at e; cases e)]
  exact e
theorem drop_get {α : Type} {l : List α} {i : Nat} {x : α} (h : l[i]? = some x) : l.drop i = x :: l.drop (i + 1) := by
  obtain ⟨h1, h2⟩ := List.getElem?_eq_some_iff.mp h
  rw [List.drop_eq_getElem_cons h1, h2]
theorem read_rows {K : PySem.W.Frag} {N : List Str} {vs : List V} {H : Hp} {Q : VK} {E : XK} (hN : N.length = 7) (h : spRows K vs H Q E) : rdRows K { nx := fun _ H' => Q .non H', rt := Q } (L2.start N vs) H := by
  obtain ⟨L, p, ks, rfl, hL, hL26, hks, ⟨xs, hq, hp⟩, q⟩ := h
  unfold rdRows L2.start
  rw [hN]
  have hxl := hp.len
  rw [List.length_map] at hxl
  refine seq_set fun c hc => ?_
  simp only [tCompSet, tRaise, tIsi, tSeq, tAsg, gName, tOp, tUn, tVar, tC, tTest, tB, tIf, tIfS, tAnd, tOr, tNot, tAndV, tOrV, tNotV, tRet, tRetN, tNext, tDrop, tCB, tCons, tNil, tBM, tBM0, tCall, tLst, tTup, tSl, tPart, tNoPart, tIsN, tNotN, tYes, tBreak, tCont, rI0, rI, rU, rEq, rNe, L2.start, compSt, List.map_cons, List.map_nil, List.length_cons, List.length_nil, List.replicate_succ, List.replicate_zero, List.cons_append, List.nil_append, List.append_nil, List.getElem?_cons_zero, List.getElem?_cons_succ, List.set_cons_zero, List.set_cons_succ, Option.some.injEq, Option.join_some, V.int.injEq, V.str.injEq, V.bl.injEq, V.ref.injEq, txt_inj, exists_eq_left', exists_eq_left, exists_and_left, and_true, true_and, decide_eq_true_eq, reduceCtorEq, decide_false, decide_true, Bool.not_false, Bool.not_true, if_true, if_false, Bool.false_eq_true, Nat.reduceAdd, Nat.reduceSub, Bool.not_eq_true', decide_eq_false_iff_not, not_true_eq_false, not_false_eq_true]
  refine comp_stand (ks := ks) (fun Q h => ⟨_, rfl, h⟩) hq hp (by omega) fun p1 hp1 => ?_
  refine lenL_go SqL.here ?_
  rw [List.length_map, List.length_map]
  have hst := stand_le ks
  refine ⟨L, stand ks, rfl, hL, hL26, by omega, fun H1 n p2 R s1 hp2 => hc _ _ ?_⟩
  clear hc c
  have s2 : Same H (upd H1 p2 (.lst ((renL L (stand ks) n).map strV))) := ((Same.up H hp1).trans s1).new hp2
  have hF : SqL K (upd H1 p2 (.lst ((renL L (stand ks) n).map strV))) p2 ((renL L (stand ks) n).map strV) := SqL.here
  have q := fun H' r ys => q H' r ys n R
  have hfl := renL_len L (stand ks) n
  have hfg := fun (g : Nat) (h : g < stand ks) => renL_get (L := L) (n := n) h
  generalize upd H1 p2 _ = H2 at s2 hF ⊢
  generalize renL L (stand ks) n = fr at hF q hfl hfg
  refine seq_set fun c hc => ?_
  simp only [tCompSet, tRaise, tIsi, tSeq, tAsg, gName, tOp, tUn, tVar, tC, tTest, tB, tIf, tIfS, tAnd, tOr, tNot, tAndV, tOrV, tNotV, tRet, tRetN, tNext, tDrop, tCB, tCons, tNil, tBM, tBM0, tCall, tLst, tTup, tSl, tPart, tNoPart, tIsN, tNotN, tYes, tBreak, tCont, rI0, rI, rU, rEq, rNe, L2.start, compSt, List.map_cons, List.map_nil, List.length_cons, List.length_nil, List.replicate_succ, List.replicate_zero, List.cons_append, List.nil_append, List.append_nil, List.getElem?_cons_zero, List.getElem?_cons_succ, List.set_cons_zero, List.set_cons_succ, Option.some.injEq, Option.join_some, V.int.injEq, V.str.injEq, V.bl.injEq, V.ref.injEq, txt_inj, exists_eq_left', exists_eq_left, exists_and_left, and_true, true_and, decide_eq_true_eq, reduceCtorEq, decide_false, decide_true, Bool.not_false, Bool.not_true, if_true, if_false, Bool.false_eq_true, Nat.reduceAdd, Nat.reduceSub, Bool.not_eq_true', decide_eq_false_iff_not, not_true_eq_false, not_false_eq_true]
  refine ⟨by decide, fun p3 hp3 => hc _ _ ?_⟩
  clear hc c
  refine seq_set fun c hc => ?_
  simp only [tCompSet, tRaise, tIsi, tSeq, tAsg, gName, tOp, tUn, tVar, tC, tTest, tB, tIf, tIfS, tAnd, tOr, tNot, tAndV, tOrV, tNotV, tRet, tRetN, tNext, tDrop, tCB, tCons, tNil, tBM, tBM0, tCall, tLst, tTup, tSl, tPart, tNoPart, tIsN, tNotN, tYes, tBreak, tCont, rI0, rI, rU, rEq, rNe, L2.start, compSt, List.map_cons, List.map_nil, List.length_cons, List.length_nil, List.replicate_succ, List.replicate_zero, List.cons_append, List.nil_append, List.append_nil, List.getElem?_cons_zero, List.getElem?_cons_succ, List.set_cons_zero, List.set_cons_succ, Option.some.injEq, Option.join_some, V.int.injEq, V.str.injEq, V.bl.injEq, V.ref.injEq, txt_inj, exists_eq_left', exists_eq_left, exists_and_left, and_true, true_and, decide_eq_true_eq, reduceCtorEq, decide_false, decide_true, Bool.not_false, Bool.not_true, if_true, if_false, Bool.false_eq_true, Nat.reduceAdd, Nat.reduceSub, Bool.not_eq_true', decide_eq_false_iff_not, not_true_eq_false, not_false_eq_true]
  refine hc _ _ ?_
  clear hc c
  have s3 : Same H2 (upd H2 p3 (.lst [])) := Same.up _ hp3
  refine seq_any fun c hc => ?_
  refine for_l (a := p) (xs := xs) (fun Q h => ⟨_, rfl, h⟩) (s3.seq (s2.seq hq))
    (RowsInv L p p2 p3 H2 fr ks)
    ⟨0, [], [], _, _, s3, upd_same, trivial, rfl, rfl, by rw [List.drop_zero, Nat.zero_add], rfl⟩ (fun i σ H' _ h => by obtain ⟨_, _, _, _, _, s, _⟩ := h; exact s.seq (s2.seq hq)) ?_ ?_
  · rintro i x σ H' hx ⟨g, ys, ps, v5, v6, s4, hr, hps, rfl, e1, e2, e3⟩
    obtain ⟨k, t, ek, rfl, ht⟩ := ((hp.same s2).same s4).get hx
    rw [List.getElem?_map] at ek
    obtain ⟨⟨m, b⟩, ek2, rfl⟩ := Option.map_eq_some_iff.mp ek
    rw [drop_get ek2] at e1 e2
    rw [stand_cons] at e2
    have hil : i < xs.length := (List.getElem?_eq_some_iff.mp hx).1
    simp only [gTup, gCons, gNil, kP, tCompSet, tRaise, tIsi, tSeq, tAsg, gName, tOp, tUn, tVar, tC, tTest, tB, tIf, tIfS, tAnd, tOr, tNot, tAndV, tOrV, tNotV, tRet, tRetN, tNext, tDrop, tCB, tCons, tNil, tBM, tBM0, tCall, tLst, tTup, tSl, tPart, tNoPart, tIsN, tNotN, tYes, tBreak, tCont, rI0, rI, rU, rEq, rNe, L2.start, compSt, List.map_cons, List.map_nil, List.length_cons, List.length_nil, List.replicate_succ, List.replicate_zero, List.cons_append, List.nil_append, List.append_nil, List.getElem?_cons_zero, List.getElem?_cons_succ, List.set_cons_zero, List.set_cons_succ, Option.some.injEq, Option.join_some, V.int.injEq, V.str.injEq, V.bl.injEq, V.ref.injEq, txt_inj, exists_eq_left', exists_eq_left, exists_and_left, and_true, true_and, decide_eq_true_eq, reduceCtorEq, decide_false, decide_true, Bool.not_false, Bool.not_true, if_true, if_false, Bool.false_eq_true, Nat.reduceAdd, Nat.reduceSub, Bool.not_eq_true', decide_eq_false_iff_not, not_true_eq_false, not_false_eq_true]
    refine ⟨[strV m, .bl b], SqT.of ht, rfl, strV m, [.bl b], rfl, .bl b, [], rfl, rfl, ?_⟩
    have hz : ys.length < sizeLine := by rw [sizeLine_eq]; omega
    cases b with
    | true =>
      simp only [tCompSet, tRaise, tIsi, tSeq, tAsg, gName, tOp, tUn, tVar, tC, tTest, tB, tIf, tIfS, tAnd, tOr, tNot, tAndV, tOrV, tNotV, tRet, tRetN, tNext, tDrop, tCB, tCons, tNil, tBM, tBM0, tCall, tLst, tTup, tSl, tPart, tNoPart, tIsN, tNotN, tYes, tBreak, tCont, rI0, rI, rU, rEq, rNe, L2.start, compSt, List.map_cons, List.map_nil, List.length_cons, List.length_nil, List.replicate_succ, List.replicate_zero, List.cons_append, List.nil_append, List.append_nil, List.getElem?_cons_zero, List.getElem?_cons_succ, List.set_cons_zero, List.set_cons_succ, Option.some.injEq, Option.join_some, V.int.injEq, V.str.injEq, V.bl.injEq, V.ref.injEq, txt_inj, exists_eq_left', exists_eq_left, exists_and_left, and_true, true_and, decide_eq_true_eq, reduceCtorEq, decide_false, decide_true, Bool.not_false, Bool.not_true, if_true, if_false, Bool.false_eq_true, Nat.reduceAdd, Nat.reduceSub, Bool.not_eq_true', decide_eq_false_iff_not, not_true_eq_false, not_false_eq_true]
      rw [if_pos rfl] at e2
      refine ⟨.inl ⟨rfl, _, SqL.of hr⟩, ?_⟩
      refine ixL_go (v := strV (fr.getD g [])) (s4.seq hF) (by omega) ?_ ?_
      · rw [Int.toNat_natCast, List.getElem?_map, List.getD_eq_getElem?_getD, hfg g (by omega)]; rfl
      · refine ⟨by decide, fun t2 ht2 => ?_⟩
        have h3 : p3 ≠ t2 := fun z => by subst z; rw [hr] at ht2; cases ht2
        refine ⟨p3, ys, _, rfl, rfl, by rw [upd_ne h3]; exact hr, hz, ?_⟩
        refine ⟨g + 1, ys ++ [.ref t2], ps ++ [(strV m, strV (fr.getD g []))], _, _, (s4.new ht2).set hp3, upd_same, (hps.keep (keep_list ht2 hr)).app ⟨⟨t2, rfl, ?_⟩, trivial⟩, rfl, ?_, by omega, by rw [List.length_append]; simp [e3]⟩
        · rw [upd_ne (Ne.symm h3), upd_same]
        · rw [List.append_assoc]; exact e1
    | false =>
      simp only [tCompSet, tRaise, tIsi, tSeq, tAsg, gName, tOp, tUn, tVar, tC, tTest, tB, tIf, tIfS, tAnd, tOr, tNot, tAndV, tOrV, tNotV, tRet, tRetN, tNext, tDrop, tCB, tCons, tNil, tBM, tBM0, tCall, tLst, tTup, tSl, tPart, tNoPart, tIsN, tNotN, tYes, tBreak, tCont, rI0, rI, rU, rEq, rNe, L2.start, compSt, List.map_cons, List.map_nil, List.length_cons, List.length_nil, List.replicate_succ, List.replicate_zero, List.cons_append, List.nil_append, List.append_nil, List.getElem?_cons_zero, List.getElem?_cons_succ, List.set_cons_zero, List.set_cons_succ, Option.some.injEq, Option.join_some, V.int.injEq, V.str.injEq, V.bl.injEq, V.ref.injEq, txt_inj, exists_eq_left', exists_eq_left, exists_and_left, and_true, true_and, decide_eq_true_eq, reduceCtorEq, decide_false, decide_true, Bool.not_false, Bool.not_true, if_true, if_false, Bool.false_eq_true, Nat.reduceAdd, Nat.reduceSub, Bool.not_eq_true', decide_eq_false_iff_not, not_true_eq_false, not_false_eq_true]
      rw [if_neg (by decide)] at e2
      refine ⟨.inl ⟨rfl, _, SqL.of hr⟩, by decide, fun t2 ht2 => ?_⟩
      have h3 : p3 ≠ t2 := fun z => by subst z; rw [hr] at ht2; cases ht2
      refine ⟨p3, ys, _, rfl, rfl, by rw [upd_ne h3]; exact hr, hz, ?_⟩
      refine ⟨g, ys ++ [.ref t2], ps ++ [(strV m, .non)], _, _, (s4.new ht2).set hp3, upd_same, (hps.keep (keep_list ht2 hr)).app ⟨⟨t2, rfl, ?_⟩, trivial⟩, rfl, ?_, by omega, by rw [List.length_append]; simp [e3]⟩
      · rw [upd_ne (Ne.symm h3), upd_same]
      · rw [List.append_assoc]; exact e1
  · rintro σ H' ⟨g, ys, ps, v5, v6, s4, hr, hps, rfl, e1, e2, e3⟩
    refine hc _ _ ?_
    simp only [tCompSet, tRaise, tIsi, tSeq, tAsg, gName, tOp, tUn, tVar, tC, tTest, tB, tIf, tIfS, tAnd, tOr, tNot, tAndV, tOrV, tNotV, tRet, tRetN, tNext, tDrop, tCB, tCons, tNil, tBM, tBM0, tCall, tLst, tTup, tSl, tPart, tNoPart, tIsN, tNotN, tYes, tBreak, tCont, rI0, rI, rU, rEq, rNe, L2.start, compSt, List.map_cons, List.map_nil, List.length_cons, List.length_nil, List.replicate_succ, List.replicate_zero, List.cons_append, List.nil_append, List.append_nil, List.getElem?_cons_zero, List.getElem?_cons_succ, List.set_cons_zero, List.set_cons_succ, Option.some.injEq, Option.join_some, V.int.injEq, V.str.injEq, V.bl.injEq, V.ref.injEq, txt_inj, exists_eq_left', exists_eq_left, exists_and_left, and_true, true_and, decide_eq_true_eq, reduceCtorEq, decide_false, decide_true, Bool.not_false, Bool.not_true, if_true, if_false, Bool.false_eq_true, Nat.reduceAdd, Nat.reduceSub, Bool.not_eq_true', decide_eq_false_iff_not, not_true_eq_false, not_false_eq_true]
    rw [hxl, List.drop_length] at e1
    have e1 : ps = rowsFrom fr 0 ks := by simpa [rowsFrom] using e1
    rw [e1] at hps
    exact q _ p3 ys (s2.trans s4) (s2.free hp3) hr hps
end L2

set_option Elab.async false
set_option linter.all false
set_option maxRecDepth 100000
set_option maxHeartbeats 4000000
/-! what several laws draw: letters, marks, texts of numbers -/
namespace L2
open PySem PySem.Spec PyProof.Rows MM
def spLetters (K : PySem.W.Frag) : Sp := fun vs H Q _ => ∃ (a : Addr) (ns : List Int), vs = [.ref a] ∧ SqL K H a (ns.map V.int) ∧ ns.length ≤ 63 ∧ ∀ H' (L : Nat), Same H H' → 2 ≤ L → L ≤ 26 → Q (.int L) H'
def rdLetters (K : PySem.W.Frag) : TS :=
    tRet (tOp (rIxL K) (tLst (tCons (tC (.int 2)) (tCons (tC (.int 3)) (tCons (tC (.int 4)) (tCons (tC (.int 10)) (tCons (tC (.int 26)) (tCons (tOp rAddI (tC (.int 2)) (tCall (spDraw K) [] E0 (tCons (tVar 0) (tCons (tC (.int 1)) (tCons (tC (.int 25)) tNil))))) tNil))))))) (tCall (spDraw K) [] E0 (tCons (tVar 0) (tCons (tC (.int 0)) (tCons (tC (.int 6)) tNil)))))
theorem read_letters {K : PySem.W.Frag} {N : List Str} {vs : List V} {H : Hp} {Q : VK} {E : XK} (hN : N.length = 1) (h : spLetters K vs H Q E) : rdLetters K { nx := fun _ H' => Q .non H', rt := Q } (L2.start N vs) H := by
  obtain ⟨sc, ns, rfl, hS, hl, q⟩ := h
  unfold rdLetters L2.start
  rw [hN]
  simp only [tCompSet, tRaise, tIsi, tSeq, tAsg, gName, tOp, tUn, tVar, tC, tTest, tB, tIf, tIfS, tAnd, tOr, tNot, tAndV, tOrV, tNotV, tRet, tRetN, tNext, tDrop, tCB, tCons, tNil, tBM, tBM0, tCall, tLst, tTup, tSl, tPart, tNoPart, tIsN, tNotN, tYes, tBreak, tCont, rI0, rI, rU, rEq, rNe, L2.start, compSt, List.map_cons, List.map_nil, List.length_cons, List.length_nil, List.replicate_succ, List.replicate_zero, List.cons_append, List.nil_append, List.append_nil, List.getElem?_cons_zero, List.getElem?_cons_succ, List.set_cons_zero, List.set_cons_succ, Option.some.injEq, Option.join_some, V.int.injEq, V.str.injEq, V.bl.injEq, V.ref.injEq, txt_inj, exists_eq_left', exists_eq_left, exists_and_left, and_true, true_and, decide_eq_true_eq, reduceCtorEq, decide_false, decide_true, Bool.not_false, Bool.not_true, if_true, if_false, Bool.false_eq_true, Nat.reduceAdd, Nat.reduceSub, Bool.not_eq_true', decide_eq_false_iff_not, not_true_eq_false, not_false_eq_true]
  refine ⟨sc, ns, _, _, rfl, hS, hl, by decide, by decide, by decide, fun r hr0 hr1 => ?_⟩
  simp only [tCompSet, tRaise, tIsi, tSeq, tAsg, gName, tOp, tUn, tVar, tC, tTest, tB, tIf, tIfS, tAnd, tOr, tNot, tAndV, tOrV, tNotV, tRet, tRetN, tNext, tDrop, tCB, tCons, tNil, tBM, tBM0, tCall, tLst, tTup, tSl, tPart, tNoPart, tIsN, tNotN, tYes, tBreak, tCont, rI0, rI, rU, rEq, rNe, L2.start, compSt, List.map_cons, List.map_nil, List.length_cons, List.length_nil, List.replicate_succ, List.replicate_zero, List.cons_append, List.nil_append, List.append_nil, List.getElem?_cons_zero, List.getElem?_cons_succ, List.set_cons_zero, List.set_cons_succ, Option.some.injEq, Option.join_some, V.int.injEq, V.str.injEq, V.bl.injEq, V.ref.injEq, txt_inj, exists_eq_left', exists_eq_left, exists_and_left, and_true, true_and, decide_eq_true_eq, reduceCtorEq, decide_false, decide_true, Bool.not_false, Bool.not_true, if_true, if_false, Bool.false_eq_true, Nat.reduceAdd, Nat.reduceSub, Bool.not_eq_true', decide_eq_false_iff_not, not_true_eq_false, not_false_eq_true]
  refine ⟨by decide, fun p hp => ?_⟩
  refine ⟨sc, ns, _, _, rfl, hS.up hp, hl, by decide, by decide, by decide, fun r' hr0' hr1' => ?_⟩
  refine ixI_go (ns := [2, 3, 4, 10, 26, 2 + r]) SqL.here hr0' (by simpa using hr1') fun z hz _ => ?_
  have hzb : 2 ≤ z ∧ z ≤ 26 := by
    simp only [List.mem_cons, List.not_mem_nil, or_false] at hz
    omega
  obtain ⟨L, rfl⟩ := Int.eq_ofNat_of_zero_le (a := z) (by omega)
  exact q _ L (Same.up _ hp) (by omega) (by omega)
/-- the number in so many figures, as letters, the a's behind left out; the name is used up -/
def spText : Sp := fun vs H Q _ => ∃ (L r n : Nat), vs = [.int L, .int r, .int n] ∧ 0 < L ∧ L ≤ 26 ∧ n ≤ 100000 ∧ Q (.str (txt (mk L r n))) H
def rdText (K : PySem.W.Frag) : TS :=
    tSeq (tAsg (tC (.str (txt []))) (gName 3))
      (tSeq (tFor (iRng1 (tCons (tVar 2) tNil)) (gName 4) (tSeq (tAsg (tOp rAddS (tOp rIxStr (tC (.str (txt ABC))) (tOp rModI (tVar 1) (tVar 0))) (tVar 3)) (gName 3))
      (tAsg (tOp rDivI (tVar 1) (tVar 0)) (gName 1))))
      (tRet (tBM K "str" rRstrip (tVar 3) (tCons (tC (.str (txt [97]))) tNil))))
theorem read_text {K : PySem.W.Frag} {N : List Str} {vs : List V} {H : Hp} {Q : VK} {E : XK} (hN : N.length = 5) (h : spText vs H Q E) : rdText K { nx := fun _ H' => Q .non H', rt := Q } (L2.start N vs) H := by
  obtain ⟨L, r, n, rfl, hL0, hL, hn, q⟩ := h
  unfold rdText L2.start
  rw [hN]
  simp only [tCompSet, tRaise, tIsi, tSeq, tAsg, gName, tOp, tUn, tVar, tC, tTest, tB, tIf, tIfS, tAnd, tOr, tNot, tAndV, tOrV, tNotV, tRet, tRetN, tNext, tDrop, tCB, tCons, tNil, tBM, tBM0, tCall, tLst, tTup, tSl, tPart, tNoPart, tIsN, tNotN, tYes, tBreak, tCont, rI0, rI, rU, rEq, rNe, L2.start, compSt, List.map_cons, List.map_nil, List.length_cons, List.length_nil, List.replicate_succ, List.replicate_zero, List.cons_append, List.nil_append, List.append_nil, List.getElem?_cons_zero, List.getElem?_cons_succ, List.set_cons_zero, List.set_cons_succ, Option.some.injEq, Option.join_some, V.int.injEq, V.str.injEq, V.bl.injEq, V.ref.injEq, txt_inj, exists_eq_left', exists_eq_left, exists_and_left, and_true, true_and, decide_eq_true_eq, reduceCtorEq, decide_false, decide_true, Bool.not_false, Bool.not_true, if_true, if_false, Bool.false_eq_true, Nat.reduceAdd, Nat.reduceSub, Bool.not_eq_true', decide_eq_false_iff_not, not_true_eq_false, not_false_eq_true]
  refine for_r1 (j := n) (fun Q h => ⟨_, rfl, h⟩) (by omega) (by omega) (fun i σ H' => H' = H ∧ ∃ v4, σ = [some (.int L), some (.int (r / L ^ i : Nat)), some (.int n), some (.str (txt (low L r i))), v4]) ⟨rfl, _, by rw [Nat.pow_zero, Nat.div_one]; rfl⟩ ?_ ?_
  · rintro i σ H1 hi ⟨rfl, v4, rfl⟩
    have e1 : ((r / L ^ i : Nat) : Int) % (L : Int) = ((r / L ^ i % L : Nat) : Int) := (Int.natCast_emod _ _).symm
    have e2 : ((r / L ^ i : Nat) : Int) / (L : Int) = ((r / L ^ (i + 1) : Nat) : Int) := by rw [Nat.pow_succ, ← Nat.div_div_eq_div_mul]; exact (Int.natCast_ediv _ _).symm
    have hb := Nat.mod_lt (r / L ^ i) hL0
    simp only [tCompSet, tRaise, tIsi, tSeq, tAsg, gName, tOp, tUn, tVar, tC, tTest, tB, tIf, tIfS, tAnd, tOr, tNot, tAndV, tOrV, tNotV, tRet, tRetN, tNext, tDrop, tCB, tCons, tNil, tBM, tBM0, tCall, tLst, tTup, tSl, tPart, tNoPart, tIsN, tNotN, tYes, tBreak, tCont, rI0, rI, rU, rEq, rNe, L2.start, compSt, List.map_cons, List.map_nil, List.length_cons, List.length_nil, List.replicate_succ, List.replicate_zero, List.cons_append, List.nil_append, List.append_nil, List.getElem?_cons_zero, List.getElem?_cons_succ, List.set_cons_zero, List.set_cons_succ, Option.some.injEq, Option.join_some, V.int.injEq, V.str.injEq, V.bl.injEq, V.ref.injEq, txt_inj, exists_eq_left', exists_eq_left, exists_and_left, and_true, true_and, decide_eq_true_eq, reduceCtorEq, decide_false, decide_true, Bool.not_false, Bool.not_true, if_true, if_false, Bool.false_eq_true, Nat.reduceAdd, Nat.reduceSub, Bool.not_eq_true', decide_eq_false_iff_not, not_true_eq_false, not_false_eq_true]
    rw [e1, e2]
    refine ⟨by omega, ixABC_go (by omega) (by omega) (addS_go (by rw [low_length]; simp only [List.length_cons, List.length_nil]; omega) ⟨cdiv (by omega) (by omega), ?_⟩)⟩
    exact ⟨rfl, some (.int i), by rw [Int.toNat_natCast]; rfl⟩
  · rintro σ H1 ⟨rfl, v4, rfl⟩
    simp only [tCompSet, tRaise, tIsi, tSeq, tAsg, gName, tOp, tUn, tVar, tC, tTest, tB, tIf, tIfS, tAnd, tOr, tNot, tAndV, tOrV, tNotV, tRet, tRetN, tNext, tDrop, tCB, tCons, tNil, tBM, tBM0, tCall, tLst, tTup, tSl, tPart, tNoPart, tIsN, tNotN, tYes, tBreak, tCont, rI0, rI, rU, rEq, rNe, L2.start, compSt, List.map_cons, List.map_nil, List.length_cons, List.length_nil, List.replicate_succ, List.replicate_zero, List.cons_append, List.nil_append, List.append_nil, List.getElem?_cons_zero, List.getElem?_cons_succ, List.set_cons_zero, List.set_cons_succ, Option.some.injEq, Option.join_some, V.int.injEq, V.str.injEq, V.bl.injEq, V.ref.injEq, txt_inj, exists_eq_left', exists_eq_left, exists_and_left, and_true, true_and, decide_eq_true_eq, reduceCtorEq, decide_false, decide_true, Bool.not_false, Bool.not_true, if_true, if_false, Bool.false_eq_true, Nat.reduceAdd, Nat.reduceSub, Bool.not_eq_true', decide_eq_false_iff_not, not_true_eq_false, not_false_eq_true]
    rw [Int.toNat_natCast]
    exact ⟨rfl, rstrip_go (by rw [low_length]; exact hn) q⟩
/-- a drawn mark of up to 41 letters -/
def spMark41 (K : PySem.W.Frag) : Sp := fun vs H Q _ => ∃ (a : Addr) (ns : List Int) (b : Int) (L : Nat), vs = [.ref a, .int b, .int L] ∧ SqL K H a (ns.map V.int) ∧ ns.length ≤ 63 ∧ 0 ≤ b ∧ b ≤ 100000 ∧ 2 ≤ L ∧ L ≤ 26 ∧ ∀ H' m, Same H H' → Mark L m → m.length ≤ 41 → Q (.str (txt m)) H'
def rdMark41 (K : PySem.W.Frag) : TS :=
    tSeq (tAsg (tC (.str (txt ABC))) (gName 3))
      (tSeq (tAsg (tOp (rIxL K) (tLst (tCons (tCall (spDraw K) [] E0 (tCons (tVar 0) (tCons (tVar 1) (tCons (tC (.int 4)) tNil)))) (tCons (tCall (spDraw K) [] E0 (tCons (tVar 0) (tCons (tVar 1) (tCons (tC (.int 8)) tNil)))) (tCons (tC (.int 40)) tNil)))) (tOp rDivI (tCall (spDraw K) [] E0 (tCons (tVar 0) (tCons (tOp rAddI (tVar 1) (tC (.int 1))) (tCons (tC (.int 9)) tNil)))) (tC (.int 4)))) (gName 4))
      (tSeq (tAsg (tOp (rIxL K) (tLst (tCons (tVar 2) (tCons (tCB rMin2 (tCons (tC (.int 2)) (tCons (tVar 2) tNil))) tNil))) (tCall (spDraw K) [] E0 (tCons (tVar 0) (tCons (tOp rAddI (tVar 1) (tC (.int 2))) (tCons (tC (.int 2)) tNil))))) (gName 5))
      (tSeq (tAsg (tBM K "str" (rJoin K) (tC (.str (txt []))) (tCons (tComp (iRng1 (tCons (tVar 4) tNil)) [3, 0, 5, 1] tYes (tOp rIxStr (tVar 1) (tCall (spDraw K) [] E0 (tCons (tVar 2) (tCons (tOp rAddI (tOp rAddI (tVar 4) (tC (.int 3))) (tOp rMulI (tC (.int 2)) (tVar 0))) (tCons (tVar 3) tNil)))))) tNil)) (gName 6))
      (tRet (tOp rAddS (tVar 6) (tOp rIxStr (tVar 3) (tOp rAddI (tC (.int 1)) (tCall (spDraw K) [] E0 (tCons (tVar 0) (tCons (tOp rAddI (tVar 1) (tC (.int 90))) (tCons (tOp rSubI (tVar 2) (tC (.int 1))) tNil)))))))))))
theorem read_mark41 {K : PySem.W.Frag} {N : List Str} {vs : List V} {H : Hp} {Q : VK} {E : XK} (hN : N.length = 7) (h : spMark41 K vs H Q E) : rdMark41 K { nx := fun _ H' => Q .non H', rt := Q } (L2.start N vs) H := by
  obtain ⟨sc, ns, b, L, rfl, hS, hl, hb0, hb1, hL, hL26, q⟩ := h
  unfold rdMark41 L2.start
  rw [hN]
  refine seq_set fun c hc => ?_
  simp only [tCompSet, tRaise, tIsi, tSeq, tAsg, gName, tOp, tUn, tVar, tC, tTest, tB, tIf, tIfS, tAnd, tOr, tNot, tAndV, tOrV, tNotV, tRet, tRetN, tNext, tDrop, tCB, tCons, tNil, tBM, tBM0, tCall, tLst, tTup, tSl, tPart, tNoPart, tIsN, tNotN, tYes, tBreak, tCont, rI0, rI, rU, rEq, rNe, L2.start, compSt, List.map_cons, List.map_nil, List.length_cons, List.length_nil, List.replicate_succ, List.replicate_zero, List.cons_append, List.nil_append, List.append_nil, List.getElem?_cons_zero, List.getElem?_cons_succ, List.set_cons_zero, List.set_cons_succ, Option.some.injEq, Option.join_some, V.int.injEq, V.str.injEq, V.bl.injEq, V.ref.injEq, txt_inj, exists_eq_left', exists_eq_left, exists_and_left, and_true, true_and, decide_eq_true_eq, reduceCtorEq, decide_false, decide_true, Bool.not_false, Bool.not_true, if_true, if_false, Bool.false_eq_true, Nat.reduceAdd, Nat.reduceSub, Bool.not_eq_true', decide_eq_false_iff_not, not_true_eq_false, not_false_eq_true]
  refine hc _ _ ?_
  clear hc c
  refine seq_set fun c hc => ?_
  simp only [tCompSet, tRaise, tIsi, tSeq, tAsg, gName, tOp, tUn, tVar, tC, tTest, tB, tIf, tIfS, tAnd, tOr, tNot, tAndV, tOrV, tNotV, tRet, tRetN, tNext, tDrop, tCB, tCons, tNil, tBM, tBM0, tCall, tLst, tTup, tSl, tPart, tNoPart, tIsN, tNotN, tYes, tBreak, tCont, rI0, rI, rU, rEq, rNe, L2.start, compSt, List.map_cons, List.map_nil, List.length_cons, List.length_nil, List.replicate_succ, List.replicate_zero, List.cons_append, List.nil_append, List.append_nil, List.getElem?_cons_zero, List.getElem?_cons_succ, List.set_cons_zero, List.set_cons_succ, Option.some.injEq, Option.join_some, V.int.injEq, V.str.injEq, V.bl.injEq, V.ref.injEq, txt_inj, exists_eq_left', exists_eq_left, exists_and_left, and_true, true_and, decide_eq_true_eq, reduceCtorEq, decide_false, decide_true, Bool.not_false, Bool.not_true, if_true, if_false, Bool.false_eq_true, Nat.reduceAdd, Nat.reduceSub, Bool.not_eq_true', decide_eq_false_iff_not, not_true_eq_false, not_false_eq_true]
  refine ⟨sc, ns, _, _, rfl, hS, hl, by omega, by omega, by decide, fun r1 h10 h11 => ?_⟩
  refine ⟨sc, ns, _, _, rfl, hS, hl, by omega, by omega, by decide, fun r2 h20 h21 => ?_⟩
  refine ⟨by decide, fun p hp => ?_⟩
  refine ⟨sc, ns, _, _, rfl, hS.up hp, hl, by omega, by omega, by decide, fun r3 h30 h31 => ?_⟩
  simp only [tCompSet, tRaise, tIsi, tSeq, tAsg, gName, tOp, tUn, tVar, tC, tTest, tB, tIf, tIfS, tAnd, tOr, tNot, tAndV, tOrV, tNotV, tRet, tRetN, tNext, tDrop, tCB, tCons, tNil, tBM, tBM0, tCall, tLst, tTup, tSl, tPart, tNoPart, tIsN, tNotN, tYes, tBreak, tCont, rI0, rI, rU, rEq, rNe, L2.start, compSt, List.map_cons, List.map_nil, List.length_cons, List.length_nil, List.replicate_succ, List.replicate_zero, List.cons_append, List.nil_append, List.append_nil, List.getElem?_cons_zero, List.getElem?_cons_succ, List.set_cons_zero, List.set_cons_succ, Option.some.injEq, Option.join_some, V.int.injEq, V.str.injEq, V.bl.injEq, V.ref.injEq, txt_inj, exists_eq_left', exists_eq_left, exists_and_left, and_true, true_and, decide_eq_true_eq, reduceCtorEq, decide_false, decide_true, Bool.not_false, Bool.not_true, if_true, if_false, Bool.false_eq_true, Nat.reduceAdd, Nat.reduceSub, Bool.not_eq_true', decide_eq_false_iff_not, not_true_eq_false, not_false_eq_true]
  refine ⟨cdiv (by decide) (by decide), ?_⟩
  refine ixI_go (ns := [r1, r2, 40]) SqL.here (by omega) (by simp only [List.length_cons, List.length_nil]; omega) fun z hz _ => hc _ _ ?_
  clear hc c
  have hzb : 0 ≤ z ∧ z ≤ 40 := by
    simp only [List.mem_cons, List.not_mem_nil, or_false] at hz
    omega
  have s1 := Same.up (o := HO.lst [V.int r1, V.int r2, V.int 40]) H hp
  generalize upd H p _ = H1 at s1 ⊢
  have hS1 := s1.seq hS
  refine seq_set fun c hc => ?_
  simp only [tCompSet, tRaise, tIsi, tSeq, tAsg, gName, tOp, tUn, tVar, tC, tTest, tB, tIf, tIfS, tAnd, tOr, tNot, tAndV, tOrV, tNotV, tRet, tRetN, tNext, tDrop, tCB, tCons, tNil, tBM, tBM0, tCall, tLst, tTup, tSl, tPart, tNoPart, tIsN, tNotN, tYes, tBreak, tCont, rI0, rI, rU, rEq, rNe, L2.start, compSt, List.map_cons, List.map_nil, List.length_cons, List.length_nil, List.replicate_succ, List.replicate_zero, List.cons_append, List.nil_append, List.append_nil, List.getElem?_cons_zero, List.getElem?_cons_succ, List.set_cons_zero, List.set_cons_succ, Option.some.injEq, Option.join_some, V.int.injEq, V.str.injEq, V.bl.injEq, V.ref.injEq, txt_inj, exists_eq_left', exists_eq_left, exists_and_left, and_true, true_and, decide_eq_true_eq, reduceCtorEq, decide_false, decide_true, Bool.not_false, Bool.not_true, if_true, if_false, Bool.false_eq_true, Nat.reduceAdd, Nat.reduceSub, Bool.not_eq_true', decide_eq_false_iff_not, not_true_eq_false, not_false_eq_true]
  refine ⟨_, _, rfl, by decide, fun p2 hp2 => ?_⟩
  refine ⟨sc, ns, _, _, rfl, hS1.up hp2, hl, by omega, by omega, by decide, fun r4 h40 h41 => ?_⟩
  refine ixI_go (ns := [(L : Int), if (L : Int) < 2 then (L : Int) else 2]) SqL.here (by omega) (by simp only [List.length_cons, List.length_nil]; omega) fun f hf _ => hc _ _ ?_
  clear hc c
  have hfb : 2 ≤ f ∧ f ≤ L := by
    simp only [List.mem_cons, List.not_mem_nil, or_false] at hf
    rw [if_neg (by omega)] at hf
    omega
  have s2 := s1.new (o := HO.lst [V.int (L : Int), V.int (if (L : Int) < 2 then (L : Int) else 2)]) hp2
  generalize upd H1 p2 _ = H2 at s2 ⊢
  have hS2 := s2.seq hS
  refine seq_set fun c hc => ?_
  suffices main : ∀ (H3 : Hp) (t : List Nat), Same H2 H3 → Ls L t → t.length ≤ 40 → c (.str (txt t)) H3 by
    simp only [tCompSet, tRaise, tIsi, tSeq, tAsg, gName, tOp, tUn, tVar, tC, tTest, tB, tIf, tIfS, tAnd, tOr, tNot, tAndV, tOrV, tNotV, tRet, tRetN, tNext, tDrop, tCB, tCons, tNil, tBM, tBM0, tCall, tLst, tTup, tSl, tPart, tNoPart, tIsN, tNotN, tYes, tBreak, tCont, rI0, rI, rU, rEq, rNe, L2.start, compSt, List.map_cons, List.map_nil, List.length_cons, List.length_nil, List.replicate_succ, List.replicate_zero, List.cons_append, List.nil_append, List.append_nil, List.getElem?_cons_zero, List.getElem?_cons_succ, List.set_cons_zero, List.set_cons_succ, Option.some.injEq, Option.join_some, V.int.injEq, V.str.injEq, V.bl.injEq, V.ref.injEq, txt_inj, exists_eq_left', exists_eq_left, exists_and_left, and_true, true_and, decide_eq_true_eq, reduceCtorEq, decide_false, decide_true, Bool.not_false, Bool.not_true, if_true, if_false, Bool.false_eq_true, Nat.reduceAdd, Nat.reduceSub, Bool.not_eq_true', decide_eq_false_iff_not, not_true_eq_false, not_false_eq_true]
    refine ⟨rfl, ?_⟩
    refine comp_r1 (j := z) (fun Q h => ⟨_, rfl, h⟩) (by omega) (by omega) (Nat.le_trans (show z.toNat ≤ 100000 by omega) (by decide))
      (fun i ys H' => H' = H2 ∧ ∃ t : List Nat, ys = (t.map fun c => strV [c]) ∧ t.length = i ∧ Ls L t) ⟨rfl, [], rfl, rfl, Ls.nil L⟩
      (fun i ys H' _ p => by obtain ⟨_, t, e, e2, _⟩ := p; rw [e, List.length_map, e2]; exact Nat.le_refl _) ?_ ?_
    · rintro i ys H' hi ⟨rfl, t, rfl, et, ht⟩ R hR
      simp only [tCompSet, tRaise, tIsi, tSeq, tAsg, gName, tOp, tUn, tVar, tC, tTest, tB, tIf, tIfS, tAnd, tOr, tNot, tAndV, tOrV, tNotV, tRet, tRetN, tNext, tDrop, tCB, tCons, tNil, tBM, tBM0, tCall, tLst, tTup, tSl, tPart, tNoPart, tIsN, tNotN, tYes, tBreak, tCont, rI0, rI, rU, rEq, rNe, L2.start, compSt, List.map_cons, List.map_nil, List.length_cons, List.length_nil, List.replicate_succ, List.replicate_zero, List.cons_append, List.nil_append, List.append_nil, List.getElem?_cons_zero, List.getElem?_cons_succ, List.set_cons_zero, List.set_cons_succ, Option.some.injEq, Option.join_some, V.int.injEq, V.str.injEq, V.bl.injEq, V.ref.injEq, txt_inj, exists_eq_left', exists_eq_left, exists_and_left, and_true, true_and, decide_eq_true_eq, reduceCtorEq, decide_false, decide_true, Bool.not_false, Bool.not_true, if_true, if_false, Bool.false_eq_true, Nat.reduceAdd, Nat.reduceSub, Bool.not_eq_true', decide_eq_false_iff_not, not_true_eq_false, not_false_eq_true]
      refine ⟨mulB_l (by decide) (by decide), sc, ns, _, _, rfl, hS2, hl, by omega, by omega, by omega, fun r h0 h1 => ?_⟩
      refine ixABC_go h0 (by omega) (hR _ _ ⟨rfl, t ++ [97 + r.toNat], by rw [List.map_append]; rfl, by rw [List.length_append, et]; rfl, ht.app fun c hc => ?_⟩)
      rw [List.mem_singleton.mp hc]; omega
    · rintro ys H' ⟨rfl, t, rfl, et, ht⟩ p3 hp3
      refine ⟨[], p3, t.map fun c => [c], rfl, rfl, ?_, ?_, ?_⟩
      · refine .inl (.inl ?_)
        rw [upd_same, List.map_map]
        rfl
      · rw [sum_ones]
        simp only [List.length_nil]; omega
      · rw [joinL_nil, flat_ones]
        exact main _ t (Same.up _ hp3) ht (by omega)
  intro H3 t s3 ht htl
  refine hc _ _ ?_
  simp only [tCompSet, tRaise, tIsi, tSeq, tAsg, gName, tOp, tUn, tVar, tC, tTest, tB, tIf, tIfS, tAnd, tOr, tNot, tAndV, tOrV, tNotV, tRet, tRetN, tNext, tDrop, tCB, tCons, tNil, tBM, tBM0, tCall, tLst, tTup, tSl, tPart, tNoPart, tIsN, tNotN, tYes, tBreak, tCont, rI0, rI, rU, rEq, rNe, L2.start, compSt, List.map_cons, List.map_nil, List.length_cons, List.length_nil, List.replicate_succ, List.replicate_zero, List.cons_append, List.nil_append, List.append_nil, List.getElem?_cons_zero, List.getElem?_cons_succ, List.set_cons_zero, List.set_cons_succ, Option.some.injEq, Option.join_some, V.int.injEq, V.str.injEq, V.bl.injEq, V.ref.injEq, txt_inj, exists_eq_left', exists_eq_left, exists_and_left, and_true, true_and, decide_eq_true_eq, reduceCtorEq, decide_false, decide_true, Bool.not_false, Bool.not_true, if_true, if_false, Bool.false_eq_true, Nat.reduceAdd, Nat.reduceSub, Bool.not_eq_true', decide_eq_false_iff_not, not_true_eq_false, not_false_eq_true]
  refine ⟨sc, ns, _, _, rfl, s3.seq hS2, hl, by omega, by omega, by omega, fun r h0 h1 => ?_⟩
  simp only [tCompSet, tRaise, tIsi, tSeq, tAsg, gName, tOp, tUn, tVar, tC, tTest, tB, tIf, tIfS, tAnd, tOr, tNot, tAndV, tOrV, tNotV, tRet, tRetN, tNext, tDrop, tCB, tCons, tNil, tBM, tBM0, tCall, tLst, tTup, tSl, tPart, tNoPart, tIsN, tNotN, tYes, tBreak, tCont, rI0, rI, rU, rEq, rNe, L2.start, compSt, List.map_cons, List.map_nil, List.length_cons, List.length_nil, List.replicate_succ, List.replicate_zero, List.cons_append, List.nil_append, List.append_nil, List.getElem?_cons_zero, List.getElem?_cons_succ, List.set_cons_zero, List.set_cons_succ, Option.some.injEq, Option.join_some, V.int.injEq, V.str.injEq, V.bl.injEq, V.ref.injEq, txt_inj, exists_eq_left', exists_eq_left, exists_and_left, and_true, true_and, decide_eq_true_eq, reduceCtorEq, decide_false, decide_true, Bool.not_false, Bool.not_true, if_true, if_false, Bool.false_eq_true, Nat.reduceAdd, Nat.reduceSub, Bool.not_eq_true', decide_eq_false_iff_not, not_true_eq_false, not_false_eq_true]
  refine ixABC_go (i := 1 + r) (by omega) (by omega) (addS_go (by simp only [List.length_cons, List.length_nil]; omega) (q _ _ (s2.trans s3) ⟨ht.app fun c hc => ?_, Na.app (Na.one (show 97 + (1 + r).toNat ≠ 97 by omega)) (by simp), by simp⟩ ?_))
  · rw [List.mem_singleton.mp hc]; omega
  · rw [List.length_append]; simp only [List.length_cons, List.length_nil]; omega
end L2

set_option Elab.async false
set_option linter.all false
set_option maxRecDepth 100000
set_option maxHeartbeats 4000000
/-! drawn marks, sorted, none twice -/
namespace L2
open PySem PySem.Spec PyProof.Rows MM
theorem inV_strs (x : List Nat) (xs : List (List Nat)) : inV (.str (txt x)) (xs.map strV) = decide (x ∈ xs) := by
  unfold inV
  rw [List.any_map, Bool.eq_iff_iff, List.any_eq_true, decide_eq_true_eq]
  constructor
  · rintro ⟨y, hy, e⟩
    have : y = x := by simpa [eqV, strV, txt_inj] using e
    rw [← this]; exact hy
  · intro h
    exact ⟨x, h, by simp [eqV, strV]⟩
theorem flat_strs (xs : List (List Nat)) : (xs.map strV).all flatV = true := by
  rw [List.all_map, List.all_eq_true]
  intro x _
  rfl
theorem cutL_last {l : List Nat} {k : Nat} (hk : 0 < k) : cutL l (some (-(k : Int))) none = l.drop (l.length - k) := by
  have e : HT.sIx l.length 0 (some (-(k : Int))) = l.length - k := by
    unfold HT.sIx
    simp only []
    split <;> omega
  have e2 : HT.sIx l.length l.length none = l.length := rfl
  unfold cutL
  rw [e, e2, List.take_of_length_le]
  rw [List.length_drop]
  omega
theorem mark_drop {L : Nat} {m : List Nat} (h : Mark L m) {k : Nat} (hk : k < m.length) : Mark L (m.drop k) := by
  refine ⟨h.ls.sub fun c hc => List.mem_of_mem_drop hc, fun c hc => ?_, ?_⟩
  · rw [List.getLast?_drop, if_neg (by omega)] at hc
    exact h.na c hc
  · intro e
    have := congrArg List.length e
    rw [List.length_drop] at this
    simp at this
    omega
theorem lt_of_sorted {zs : List (List Nat)} (h : zs.Pairwise (· ≤ ·)) (n : zs.Nodup) : zs.Pairwise (· < ·) := by
  have := List.Pairwise.and h n
  refine this.imp fun {a b} hab => ?_
  by_cases z : a < b
  · exact z
  · exact absurd (List.le_antisymm hab.1 (List.not_lt.mp z)) hab.2
def spMarks (K : PySem.W.Frag) : Sp := fun vs H Q _ => ∃ (a : Addr) (ns : List Int) (b : Int) (L n : Nat), vs = [.ref a, .int b, .int L, .int n] ∧ SqL K H a (ns.map V.int) ∧ ns.length ≤ 63 ∧ 0 ≤ b ∧ b ≤ 10000 ∧ 2 ≤ L ∧ L ≤ 26 ∧ n ≤ 40 ∧
  ∀ H' p (ms : List (List Nat)), Same H H' → H' p = none → (∀ m ∈ ms, Mark L m ∧ m.length ≤ 200) → ms.length ≤ n → ms.Pairwise (· < ·) → Q (.ref p) (upd H' p (.lst (ms.map strV)))
def rdMarks (K : PySem.W.Frag) : TS :=
    tSeq (tAsg (tLst tNil) (gName 4))
      (tSeq (tFor (iRng1 (tCons (tVar 3) tNil)) (gName 5) (tSeq (tAsg (tCall (spMark41 K) [] E0 (tCons (tVar 0) (tCons (tOp rAddI (tVar 1) (tOp rMulI (tC (.int 97)) (tVar 5))) (tCons (tVar 2) tNil)))) (gName 6))
      (tSeq (tIfS (tAnd (tTest (tOp rGtI (tCB (rLenL K) (tCons (tVar 4) tNil)) (tC (.int 0)))) (tTest (tOp rEq (tCall (spDraw K) [] E0 (tCons (tVar 0) (tCons (tOp rAddI (tOp rAddI (tVar 1) (tOp rMulI (tC (.int 13)) (tVar 5))) (tC (.int 5))) (tCons (tC (.int 3)) tNil)))) (tC (.int 0))))) (tSeq (tAsg (tOp (rIxL K) (tVar 4) (tCall (spDraw K) [] E0 (tCons (tVar 0) (tCons (tOp rAddI (tOp rAddI (tVar 1) (tOp rMulI (tC (.int 13)) (tVar 5))) (tC (.int 6))) (tCons (tCB (rLenL K) (tCons (tVar 4) tNil)) tNil))))) (gName 7))
      (tAsg (tOp rAddS (tSl rSlS (tVar 7) tNoPart (tPart (tOp rAddI (tC (.int 1)) (tCall (spDraw K) [] E0 (tCons (tVar 0) (tCons (tOp rAddI (tOp rAddI (tVar 1) (tOp rMulI (tC (.int 13)) (tVar 5))) (tC (.int 7))) (tCons (tCB rLenS (tCons (tVar 7) tNil)) tNil))))))) (tSl rSlS (tVar 6) (tPart (tUn rNegI (tC (.int 2)))) tNoPart)) (gName 6))) (tNext))
      (tIfS (tTest (tOp (rIn K true) (tVar 6) (tVar 4))) (tDrop (tBM K "list" rAppend (tVar 4) (tCons (tVar 6) tNil))) (tNext)))))
      (tRet (tCB (rSortedS K) (tCons (tVar 4) tNil))))
def MarksInv (sc p : Addr) (b : Int) (L n : Nat) (H : Hp) : Nat → St → Hp → Prop := fun i σ H' => ∃ (ms : List (List Nat)) (v5 v6 v7 : Option V), Same H H' ∧ H' p = some (.lst (ms.map strV)) ∧ σ = [some (.ref sc), some (.int b), some (.int L), some (.int n), some (.ref p), v5, v6, v7] ∧ ms.Nodup ∧ (∀ m ∈ ms, Mark L m ∧ m.length ≤ 41 + 2 * i) ∧ ms.length ≤ i
theorem read_marks {K : PySem.W.Frag} {N : List Str} {vs : List V} {H : Hp} {Q : VK} {E : XK} (hN : N.length = 8) (h : spMarks K vs H Q E) : rdMarks K { nx := fun _ H' => Q .non H', rt := Q } (L2.start N vs) H := by
  obtain ⟨sc, ns, b, L, n, rfl, hS, hl, hb0, hb1, hL, hL26, hn, q⟩ := h
  unfold rdMarks L2.start
  rw [hN]
  refine seq_set fun c hc => ?_
  simp only [tCompSet, tRaise, tIsi, tSeq, tAsg, gName, tOp, tUn, tVar, tC, tTest, tB, tIf, tIfS, tAnd, tOr, tNot, tAndV, tOrV, tNotV, tRet, tRetN, tNext, tDrop, tCB, tCons, tNil, tBM, tBM0, tCall, tLst, tTup, tSl, tPart, tNoPart, tIsN, tNotN, tYes, tBreak, tCont, rI0, rI, rU, rEq, rNe, L2.start, compSt, List.map_cons, List.map_nil, List.length_cons, List.length_nil, List.replicate_succ, List.replicate_zero, List.cons_append, List.nil_append, List.append_nil, List.getElem?_cons_zero, List.getElem?_cons_succ, List.set_cons_zero, List.set_cons_succ, Option.some.injEq, Option.join_some, V.int.injEq, V.str.injEq, V.bl.injEq, V.ref.injEq, txt_inj, exists_eq_left', exists_eq_left, exists_and_left, and_true, true_and, decide_eq_true_eq, reduceCtorEq, decide_false, decide_true, Bool.not_false, Bool.not_true, if_true, if_false, Bool.false_eq_true, Nat.reduceAdd, Nat.reduceSub, Bool.not_eq_true', decide_eq_false_iff_not, not_true_eq_false, not_false_eq_true]
  refine ⟨by decide, fun p hp => hc _ _ ?_⟩
  clear hc c
  refine seq_any fun c hc => ?_
  simp only [tCompSet, tRaise, tIsi, tSeq, tAsg, gName, tOp, tUn, tVar, tC, tTest, tB, tIf, tIfS, tAnd, tOr, tNot, tAndV, tOrV, tNotV, tRet, tRetN, tNext, tDrop, tCB, tCons, tNil, tBM, tBM0, tCall, tLst, tTup, tSl, tPart, tNoPart, tIsN, tNotN, tYes, tBreak, tCont, rI0, rI, rU, rEq, rNe, L2.start, compSt, List.map_cons, List.map_nil, List.length_cons, List.length_nil, List.replicate_succ, List.replicate_zero, List.cons_append, List.nil_append, List.append_nil, List.getElem?_cons_zero, List.getElem?_cons_succ, List.set_cons_zero, List.set_cons_succ, Option.some.injEq, Option.join_some, V.int.injEq, V.str.injEq, V.bl.injEq, V.ref.injEq, txt_inj, exists_eq_left', exists_eq_left, exists_and_left, and_true, true_and, decide_eq_true_eq, reduceCtorEq, decide_false, decide_true, Bool.not_false, Bool.not_true, if_true, if_false, Bool.false_eq_true, Nat.reduceAdd, Nat.reduceSub, Bool.not_eq_true', decide_eq_false_iff_not, not_true_eq_false, not_false_eq_true]
  refine for_r1 (j := n) (fun Q h => ⟨_, rfl, h⟩) (by omega) (by omega) (MarksInv sc p b L n H) ⟨[], _, _, _, Same.up _ hp, upd_same, rfl, List.nodup_nil, fun m h => (nomatch h), Nat.le_refl _⟩ ?_ ?_
  · rintro i σ H1 hi ⟨ms, v5, v6, v7, s1, hM, rfl, nd, hm, hml⟩
    refine seq_set fun c hc => ?_
    simp only [tCompSet, tRaise, tIsi, tSeq, tAsg, gName, tOp, tUn, tVar, tC, tTest, tB, tIf, tIfS, tAnd, tOr, tNot, tAndV, tOrV, tNotV, tRet, tRetN, tNext, tDrop, tCB, tCons, tNil, tBM, tBM0, tCall, tLst, tTup, tSl, tPart, tNoPart, tIsN, tNotN, tYes, tBreak, tCont, rI0, rI, rU, rEq, rNe, L2.start, compSt, List.map_cons, List.map_nil, List.length_cons, List.length_nil, List.replicate_succ, List.replicate_zero, List.cons_append, List.nil_append, List.append_nil, List.getElem?_cons_zero, List.getElem?_cons_succ, List.set_cons_zero, List.set_cons_succ, Option.some.injEq, Option.join_some, V.int.injEq, V.str.injEq, V.bl.injEq, V.ref.injEq, txt_inj, exists_eq_left', exists_eq_left, exists_and_left, and_true, true_and, decide_eq_true_eq, reduceCtorEq, decide_false, decide_true, Bool.not_false, Bool.not_true, if_true, if_false, Bool.false_eq_true, Nat.reduceAdd, Nat.reduceSub, Bool.not_eq_true', decide_eq_false_iff_not, not_true_eq_false, not_false_eq_true]
    refine ⟨mulB_l (by decide) (by decide), sc, ns, _, L, rfl, s1.seq hS, hl, by omega, by omega, hL, hL26, fun H2 mk s2 Mk zk => hc _ _ ?_⟩
    clear hc c
    have hM2 := s2 _ _ hM
    have s12 := s1.trans s2
    have hS2 := s12.seq hS
    refine seq_any fun c hc => ?_
    suffices main : ∀ (mk : List Nat) (v7 : Option V), Mark L mk → mk.length ≤ 41 + 2 * (i + 1) → c [some (.ref sc), some (.int b), some (.int L), some (.int n), some (.ref p), some (.int i), some (.str (txt mk)), v7] H2 by
      simp only [tCompSet, tRaise, tIsi, tSeq, tAsg, gName, tOp, tUn, tVar, tC, tTest, tB, tIf, tIfS, tAnd, tOr, tNot, tAndV, tOrV, tNotV, tRet, tRetN, tNext, tDrop, tCB, tCons, tNil, tBM, tBM0, tCall, tLst, tTup, tSl, tPart, tNoPart, tIsN, tNotN, tYes, tBreak, tCont, rI0, rI, rU, rEq, rNe, L2.start, compSt, List.map_cons, List.map_nil, List.length_cons, List.length_nil, List.replicate_succ, List.replicate_zero, List.cons_append, List.nil_append, List.append_nil, List.getElem?_cons_zero, List.getElem?_cons_succ, List.set_cons_zero, List.set_cons_succ, Option.some.injEq, Option.join_some, V.int.injEq, V.str.injEq, V.bl.injEq, V.ref.injEq, txt_inj, exists_eq_left', exists_eq_left, exists_and_left, and_true, true_and, decide_eq_true_eq, reduceCtorEq, decide_false, decide_true, Bool.not_false, Bool.not_true, if_true, if_false, Bool.false_eq_true, Nat.reduceAdd, Nat.reduceSub, Bool.not_eq_true', decide_eq_false_iff_not, not_true_eq_false, not_false_eq_true]
      refine lenL_go (SqL.of hM2) ⟨_, rfl, ?_⟩
      rw [List.length_map]
      by_cases h0 : (0 : Int) < (ms.length : Int)
      · rw [if_pos h0]
        refine ⟨mulB_l (by decide) (by decide), sc, ns, _, _, rfl, hS2, hl, by omega, by omega, by decide, fun r hr0 hr1 => ⟨rfl, ?_⟩⟩
        by_cases e : V.int r = V.int 0
        · rw [if_pos e]
          refine ⟨mulB_l (by decide) (by decide), lenL_go (SqL.of hM2) ?_⟩
          rw [List.length_map]
          refine ⟨sc, ns, _, _, rfl, hS2, hl, by omega, by omega, h0, fun r2 hr20 hr21 => ?_⟩
          obtain ⟨ot, hot⟩ := some_at (l := ms) (i := r2.toNat) (by omega)
          have ho := hm ot (List.mem_of_getElem? hot)
          refine ixL_go (v := strV ot) (SqL.of hM2) hr20 (by rw [List.getElem?_map, hot]; rfl) ?_
          simp only [strV, tCompSet, tRaise, tIsi, tSeq, tAsg, gName, tOp, tUn, tVar, tC, tTest, tB, tIf, tIfS, tAnd, tOr, tNot, tAndV, tOrV, tNotV, tRet, tRetN, tNext, tDrop, tCB, tCons, tNil, tBM, tBM0, tCall, tLst, tTup, tSl, tPart, tNoPart, tIsN, tNotN, tYes, tBreak, tCont, rI0, rI, rU, rEq, rNe, L2.start, compSt, List.map_cons, List.map_nil, List.length_cons, List.length_nil, List.replicate_succ, List.replicate_zero, List.cons_append, List.nil_append, List.append_nil, List.getElem?_cons_zero, List.getElem?_cons_succ, List.set_cons_zero, List.set_cons_succ, Option.some.injEq, Option.join_some, V.int.injEq, V.str.injEq, V.bl.injEq, V.ref.injEq, txt_inj, exists_eq_left', exists_eq_left, exists_and_left, and_true, true_and, decide_eq_true_eq, reduceCtorEq, decide_false, decide_true, Bool.not_false, Bool.not_true, if_true, if_false, Bool.false_eq_true, Nat.reduceAdd, Nat.reduceSub, Bool.not_eq_true', decide_eq_false_iff_not, not_true_eq_false, not_false_eq_true]
          have hpo : 0 < ot.length := List.length_pos_iff.mpr ho.1.ne
          have hpm : 0 < mk.length := List.length_pos_iff.mpr Mk.ne
          refine ⟨mulB_l (by decide) (by decide), lenS_go (by omega) ?_⟩
          refine ⟨sc, ns, _, _, rfl, hS2, hl, by omega, by omega, by omega, fun r3 hr30 hr31 => ?_⟩
          simp only [tCompSet, tRaise, tIsi, tSeq, tAsg, gName, tOp, tUn, tVar, tC, tTest, tB, tIf, tIfS, tAnd, tOr, tNot, tAndV, tOrV, tNotV, tRet, tRetN, tNext, tDrop, tCB, tCons, tNil, tBM, tBM0, tCall, tLst, tTup, tSl, tPart, tNoPart, tIsN, tNotN, tYes, tBreak, tCont, rI0, rI, rU, rEq, rNe, L2.start, compSt, List.map_cons, List.map_nil, List.length_cons, List.length_nil, List.replicate_succ, List.replicate_zero, List.cons_append, List.nil_append, List.append_nil, List.getElem?_cons_zero, List.getElem?_cons_succ, List.set_cons_zero, List.set_cons_succ, Option.some.injEq, Option.join_some, V.int.injEq, V.str.injEq, V.bl.injEq, V.ref.injEq, txt_inj, exists_eq_left', exists_eq_left, exists_and_left, and_true, true_and, decide_eq_true_eq, reduceCtorEq, decide_false, decide_true, Bool.not_false, Bool.not_true, if_true, if_false, Bool.false_eq_true, Nat.reduceAdd, Nat.reduceSub, Bool.not_eq_true', decide_eq_false_iff_not, not_true_eq_false, not_false_eq_true]
          refine slTo_go (by omega) (by omega) (by omega) (slS_go (by omega) ?_)
          rw [show (-2 : Int) = -((2 : Nat) : Int) from rfl, cutL_last (by decide)]
          have l1 : (ot.take (1 + r3).toNat).length ≤ ot.length := by rw [List.length_take]; omega
          have l2 : (mk.drop (mk.length - 2)).length ≤ 2 := by rw [List.length_drop]; omega
          refine addS_go (by omega) (main _ _ ?_ (by rw [List.length_append]; omega))
          have Md := mark_drop Mk (k := mk.length - 2) (by omega)
          exact ⟨(ho.1.ls.sub fun c hc => List.mem_of_mem_take hc).app Md.ls, Na.app Md.na Md.ne, by simp [Md.ne]⟩
        · rw [if_neg e]
          exact main mk _ Mk (by omega)
      · rw [if_neg h0]
        exact main mk _ Mk (by omega)
    intro mk v7 Mk zk
    refine hc _ _ ?_
    simp only [tCompSet, tRaise, tIsi, tSeq, tAsg, gName, tOp, tUn, tVar, tC, tTest, tB, tIf, tIfS, tAnd, tOr, tNot, tAndV, tOrV, tNotV, tRet, tRetN, tNext, tDrop, tCB, tCons, tNil, tBM, tBM0, tCall, tLst, tTup, tSl, tPart, tNoPart, tIsN, tNotN, tYes, tBreak, tCont, rI0, rI, rU, rEq, rNe, L2.start, compSt, List.map_cons, List.map_nil, List.length_cons, List.length_nil, List.replicate_succ, List.replicate_zero, List.cons_append, List.nil_append, List.append_nil, List.getElem?_cons_zero, List.getElem?_cons_succ, List.set_cons_zero, List.set_cons_succ, Option.some.injEq, Option.join_some, V.int.injEq, V.str.injEq, V.bl.injEq, V.ref.injEq, txt_inj, exists_eq_left', exists_eq_left, exists_and_left, and_true, true_and, decide_eq_true_eq, reduceCtorEq, decide_false, decide_true, Bool.not_false, Bool.not_true, if_true, if_false, Bool.false_eq_true, Nat.reduceAdd, Nat.reduceSub, Bool.not_eq_true', decide_eq_false_iff_not, not_true_eq_false, not_false_eq_true]
    refine ⟨p, _, rfl, .inl (SqL.of hM2), rfl, flat_strs _, ?_⟩
    rw [inV_strs]
    simp only [tCompSet, tRaise, tIsi, tSeq, tAsg, gName, tOp, tUn, tVar, tC, tTest, tB, tIf, tIfS, tAnd, tOr, tNot, tAndV, tOrV, tNotV, tRet, tRetN, tNext, tDrop, tCB, tCons, tNil, tBM, tBM0, tCall, tLst, tTup, tSl, tPart, tNoPart, tIsN, tNotN, tYes, tBreak, tCont, rI0, rI, rU, rEq, rNe, L2.start, compSt, List.map_cons, List.map_nil, List.length_cons, List.length_nil, List.replicate_succ, List.replicate_zero, List.cons_append, List.nil_append, List.append_nil, List.getElem?_cons_zero, List.getElem?_cons_succ, List.set_cons_zero, List.set_cons_succ, Option.some.injEq, Option.join_some, V.int.injEq, V.str.injEq, V.bl.injEq, V.ref.injEq, txt_inj, exists_eq_left', exists_eq_left, exists_and_left, and_true, true_and, decide_eq_true_eq, reduceCtorEq, decide_false, decide_true, Bool.not_false, Bool.not_true, if_true, if_false, Bool.false_eq_true, Nat.reduceAdd, Nat.reduceSub, Bool.not_eq_true', decide_eq_false_iff_not, not_true_eq_false, not_false_eq_true]
    by_cases hin : mk ∈ ms
    · rw [if_neg (fun z => z hin)]
      exact ⟨ms, _, _, _, s12, hM2, rfl, nd, fun m h => ⟨(hm m h).1, by have := (hm m h).2; omega⟩, by omega⟩
    · rw [if_pos hin]
      refine ⟨.inl ⟨rfl, _, SqL.of hM2⟩, p, _, _, rfl, rfl, hM2, by rw [List.length_map, sizeLine_eq]; omega, ?_⟩
      refine ⟨ms ++ [mk], _, _, _, s12.set hp, by rw [upd_same, List.map_append]; rfl, rfl, ?_, fun m h => ?_, by rw [List.length_append]; simp; omega⟩
      · rw [List.nodup_append]
        refine ⟨nd, by simp, fun a ha b hb e => ?_⟩
        rw [List.mem_singleton.mp hb] at e
        subst e
        exact hin ha
      · rcases List.mem_append.mp h with h | h
        · exact ⟨(hm m h).1, by have := (hm m h).2; omega⟩
        · rw [List.mem_singleton.mp h]; exact ⟨Mk, zk⟩
  · rintro σ H1 ⟨ms, v5, v6, v7, s1, hM, rfl, nd, hm, hml⟩
    refine hc _ _ ?_
    simp only [tCompSet, tRaise, tIsi, tSeq, tAsg, gName, tOp, tUn, tVar, tC, tTest, tB, tIf, tIfS, tAnd, tOr, tNot, tAndV, tOrV, tNotV, tRet, tRetN, tNext, tDrop, tCB, tCons, tNil, tBM, tBM0, tCall, tLst, tTup, tSl, tPart, tNoPart, tIsN, tNotN, tYes, tBreak, tCont, rI0, rI, rU, rEq, rNe, L2.start, compSt, List.map_cons, List.map_nil, List.length_cons, List.length_nil, List.replicate_succ, List.replicate_zero, List.cons_append, List.nil_append, List.append_nil, List.getElem?_cons_zero, List.getElem?_cons_succ, List.set_cons_zero, List.set_cons_succ, Option.some.injEq, Option.join_some, V.int.injEq, V.str.injEq, V.bl.injEq, V.ref.injEq, txt_inj, exists_eq_left', exists_eq_left, exists_and_left, and_true, true_and, decide_eq_true_eq, reduceCtorEq, decide_false, decide_true, Bool.not_false, Bool.not_true, if_true, if_false, Bool.false_eq_true, Nat.reduceAdd, Nat.reduceSub, Bool.not_eq_true', decide_eq_false_iff_not, not_true_eq_false, not_false_eq_true]
    rw [Int.toNat_natCast] at hm hml
    refine ⟨p, ms, rfl, SqL.of hM, by omega, fun r zs hr hpm hle => ?_⟩
    exact q _ r zs s1 hr (fun m h => ⟨(hm m (hpm.mem_iff.mp h)).1, by have := (hm m (hpm.mem_iff.mp h)).2; omega⟩) (by rw [hpm.length_eq]; exact hml) (lt_of_sorted hle (hpm.nodup_iff.mpr nd))
end L2

set_option Elab.async false
set_option linter.all false
set_option maxRecDepth 100000
set_option maxHeartbeats 4000000
namespace K40
open PySem PySem.Spec PyProof.Rows L2 MM
def top (i : Nat) : Stmt := PySem.Challenge.pw_shelfmark_k40_rows_of_renewals.main.body.getD i (.Pass ⟨0, 0, 0, 0⟩)
abbrev s_power : Stmt := top 2
abbrev s_mark_of : Stmt := top 3
abbrev s_spread : Stmt := top 5
abbrev s_renewed_long : Stmt := top 6
abbrev s_renewed : Stmt := top 7
abbrev s_renewal_rows : Stmt := top 9
abbrev s_draw : Stmt := top 11
abbrev s_letters : Stmt := top 12
abbrev s_text : Stmt := top 13
abbrev s_mark : Stmt := top 14
abbrev s_marks : Stmt := top 15
abbrev s_due : Stmt := top 16
abbrev s_law : Stmt := top 17
structure Ad where
  (f_power f_mark_of f_spread f_renewed_long f_renewed f_renewal_rows f_draw f_letters f_text f_mark f_marks f_due f_law : Addr)
  (fd_power fd_mark_of fd_spread fd_renewed_long fd_renewed fd_renewal_rows fd_draw fd_letters fd_text fd_mark fd_marks fd_due fd_law : FuncData)
structure Tx (K : PySem.W.Frag) (mg : Str → Option Value) (a : Ad) : Prop where
  n_isinstance : mg "isinstance" = none
  n_len : mg "len" = none
  n_list : mg "list" = none
  n_min : mg "min" = none
  n_range : mg "range" = none
  n_sorted : mg "sorted" = none
  n_tuple : mg "tuple" = none
  c_SMALL : ∃ t, mg "SMALL" = some (.str "abcdefghijklmnopqrstuvwxyz" t)
  g_power : mg "power" = some (.ref a.f_power)
  F_power : Fun K "power" "power" s_power a.f_power a.fd_power
  b_power : Binds K a.fd_power ["letters", "long"] []
  g_mark_of : mg "mark_of" = some (.ref a.f_mark_of)
  F_mark_of : Fun K "mark_of" "mark_of" s_mark_of a.f_mark_of a.fd_mark_of
  b_mark_of : Binds K a.fd_mark_of ["letters", "number", "long"] []
  g_spread : mg "spread" = some (.ref a.f_spread)
  F_spread : Fun K "spread" "spread" s_spread a.f_spread a.fd_spread
  b_spread : Binds K a.fd_spread ["many", "whole"] []
  g_renewed_long : mg "renewed_long" = some (.ref a.f_renewed_long)
  F_renewed_long : Fun K "renewed_long" "renewed_long" s_renewed_long a.f_renewed_long a.fd_renewed_long
  b_renewed_long : Binds K a.fd_renewed_long ["letters", "many"] []
  g_renewed : mg "renewed" = some (.ref a.f_renewed)
  F_renewed : Fun K "renewed" "renewed" s_renewed a.f_renewed a.fd_renewed
  b_renewed : Binds K a.fd_renewed ["letters", "many"] []
  g_renewal_rows : mg "renewal_rows" = some (.ref a.f_renewal_rows)
  F_renewal_rows : Fun K "renewal_rows" "renewal_rows" s_renewal_rows a.f_renewal_rows a.fd_renewal_rows
  b_renewal_rows : Binds K a.fd_renewal_rows ["letters", "known"] []
  g_draw : mg "_law_draw" = some (.ref a.f_draw)
  F_draw : Fun K "_law_draw" "_law_draw" s_draw a.f_draw a.fd_draw
  b_draw : Binds K a.fd_draw ["_law_script", "_law_k", "_law_many"] []
  g_letters : mg "_law_letters" = some (.ref a.f_letters)
  F_letters : Fun K "_law_letters" "_law_letters" s_letters a.f_letters a.fd_letters
  b_letters : Binds K a.fd_letters ["_law_script"] []
  g_text : mg "_law_text" = some (.ref a.f_text)
  F_text : Fun K "_law_text" "_law_text" s_text a.f_text a.fd_text
  b_text : Binds K a.fd_text ["_law_letters_here", "_law_number", "_law_long"] []
  g_mark : mg "_law_mark" = some (.ref a.f_mark)
  F_mark : Fun K "_law_mark" "_law_mark" s_mark a.f_mark a.fd_mark
  b_mark : Binds K a.fd_mark ["_law_script", "_law_base", "_law_letters_here"] []
  g_marks : mg "_law_marks" = some (.ref a.f_marks)
  F_marks : Fun K "_law_marks" "_law_marks" s_marks a.f_marks a.fd_marks
  b_marks : Binds K a.fd_marks ["_law_script", "_law_base", "_law_letters_here", "_law_many"] []
  g_due : mg "_law_due" = some (.ref a.f_due)
  F_due : Fun K "_law_due" "_law_due" s_due a.f_due a.fd_due
  b_due : Binds K a.fd_due ["_law_letters_here", "_law_known"] []
  g_law : mg "law" = some (.ref a.f_law)
  F_law : Fun K "law" "law" s_law a.f_law a.fd_law
  b_law : Binds K a.fd_law ["_law_script"] []
end K40
namespace K40
open PySem PySem.Spec PyProof.Rows L2 MM
set_option linter.all false
set_option maxRecDepth 100000
set_option maxHeartbeats 4000000
def spLaw (K : PySem.W.Frag) : Sp := fun vs H Q _ => ∃ (a : Addr) (ns : List Int), vs = [.ref a] ∧ SqL K H a (ns.map V.int) ∧ ns.length ≤ 63 ∧ ∀ H', Q (.bl true) H'
theorem sc_power : FnScope ["letters", "long", "product", "step"] ["letters", "long"] (defScope s_power) := ⟨rfl, rfl, rfl, by decide +kernel, rfl, by decide +kernel, by decide +kernel⟩
/-- slots: 0 letters, 1 long, 2 product, 3 step -/
def rd_power (K : PySem.W.Frag) (a : Ad) : TS :=
    tSeq (tAsg (tC (.int 1)) (gName 2))
      (tSeq (tFor (iRng1 (tCons (tVar 1) tNil)) (gName 3) (tAsg (tOp rMulI (tVar 2) (tVar 0)) (gName 2)))
      (tRet (tVar 2)))
theorem pr_power {P : Program} {w : World} {K : PySem.W.Frag} {mg : Str → Option Value} {base : Heap} {a : Ad} (T : Tx K mg a) {f : Addr} {cdv : Value} {A : Around} {outer : List Env} {s : Shared} {H : Hp} {E : XK} (hr : Room 0 (A.deeper (envOfC "power" (defScope s_power) s.heap.objs.size f cdv))) :
    QSs (cxOf CX0 P w K mg base ["letters", "long", "product", "step"] "power" (defScope s_power) f cdv A outer s H E).nox (defBody s_power) (rd_power K a) := by
  exact kss_cons (ks_set (i := 2) sc_power.nd ke_int)
      (kss_cons (ks_for (ki_range1 T.n_range (ka_cons (kv 1) ka_nil)) (kg_name (i := 3) sc_power.nd) (kss_one (ks_set (i := 2) sc_power.nd (ke_op op_mulB (kv 2) (kv 0)))))
      (kss_one (ks_ret (kv 2))))
theorem sc_mark_of : FnScope ["letters", "number", "long", "text", "rest", "step"] ["letters", "number", "long"] (defScope s_mark_of) := ⟨rfl, rfl, rfl, by decide +kernel, rfl, by decide +kernel, by decide +kernel⟩
/-- slots: 0 letters, 1 number, 2 long, 3 text, 4 rest, 5 step -/
def rd_mark_of (K : PySem.W.Frag) (a : Ad) : TS :=
    tSeq (tAsg (tC (.str (txt []))) (gName 3))
      (tSeq (tAsg (tVar 1) (gName 4))
      (tSeq (tFor (iRng1 (tCons (tVar 2) tNil)) (gName 5) (tSeq (tAsg (tOp rAddS (tOp rIxStr (tC (.str (txt ABC))) (tOp rModI (tVar 4) (tVar 0))) (tVar 3)) (gName 3))
      (tAsg (tOp rDivI (tVar 4) (tVar 0)) (gName 4))))
      (tRet (tBM K "str" rRstrip (tVar 3) (tCons (tC (.str (txt [97]))) tNil)))))
theorem pr_mark_of {P : Program} {w : World} {K : PySem.W.Frag} {mg : Str → Option Value} {base : Heap} {a : Ad} (T : Tx K mg a) {f : Addr} {cdv : Value} {A : Around} {outer : List Env} {s : Shared} {H : Hp} {E : XK} (hr : Room 0 (A.deeper (envOfC "mark_of" (defScope s_mark_of) s.heap.objs.size f cdv))) :
    QSs (cxOf CX0 P w K mg base ["letters", "number", "long", "text", "rest", "step"] "mark_of" (defScope s_mark_of) f cdv A outer s H E).nox (defBody s_mark_of) (rd_mark_of K a) := by
  exact kss_cons (ks_set (i := 3) sc_mark_of.nd (ke_txt (by kernel_rfl)))
      (kss_cons (ks_set (i := 4) sc_mark_of.nd (kv 1))
      (kss_cons (ks_for (ki_range1 T.n_range (ka_cons (kv 2) ka_nil)) (kg_name (i := 5) sc_mark_of.nd) (kss_cons (ks_set (i := 3) sc_mark_of.nd (ke_op op_addS (ke_ix ix_strL (ke_gstr T.c_SMALL small_eq) (ke_op op_mod (kv 4) (kv 0))) (kv 3)))
      (kss_one (ks_set (i := 4) sc_mark_of.nd (ke_op op_fdiv (kv 4) (kv 0))))))
      (kss_one (ks_ret (ke_bm PySem.F.plainAttrs_str PySem.F.slot_str_rstrip PySem.F.type_str_rstrip mt_rstrip (kv 3) (ka_cons (ke_txt (by kernel_rfl)) ka_nil))))))
theorem sc_spread : FnScope ["many", "whole"] ["many", "whole"] (defScope s_spread) := ⟨rfl, rfl, rfl, by decide +kernel, rfl, by decide +kernel, by decide +kernel⟩
/-- slots: 0 many, 1 whole -/
def rd_spread (K : PySem.W.Frag) (a : Ad) : TS :=
    tRet (tComp (iRng1 (tCons (tVar 0) tNil)) [1, 0] tYes (tOp rDivI (tOp rMulI (tOp rAddI (tVar 0) (tC (.int 1))) (tVar 1)) (tOp rAddI (tVar 2) (tC (.int 1)))))
theorem pr_spread {P : Program} {w : World} {K : PySem.W.Frag} {mg : Str → Option Value} {base : Heap} {a : Ad} (T : Tx K mg a) {f : Addr} {cdv : Value} {A : Around} {outer : List Env} {s : Shared} {H : Hp} {E : XK} (hr : Room 0 (A.deeper (envOfC "spread" (defScope s_spread) s.heap.objs.size f cdv))) :
    QSs (cxOf CX0 P w K mg base ["many", "whole"] "spread" (defScope s_spread) f cdv A outer s H E).nox (defBody s_spread) (rd_spread K a) := by
  exact kss_one (ks_ret (ke_comp [("whole", 1), ("many", 0)] (ki_range1 T.n_range (ka_cons (kvc 0) ka_nil)) (fun _ _ _ _ _ => ⟨kts_nil, ke_op op_fdiv (ke_op op_mulB (ke_op op_add (kv 0) ke_int) (kvc 1)) (ke_op op_add (kvc 2) ke_int)⟩)))
theorem sc_renewed_long : FnScope ["letters", "many", "long", "texts"] ["letters", "many"] (defScope s_renewed_long) := ⟨rfl, rfl, rfl, by decide +kernel, rfl, by decide +kernel, by decide +kernel⟩
/-- slots: 0 letters, 1 many, 2 long, 3 texts -/
def rd_renewed_long (K : PySem.W.Frag) (a : Ad) : TS :=
    tSeq (tAsg (tC (.int 0)) (gName 2))
      (tSeq (tAsg (tC (.int 1)) (gName 3))
      (tSeq (tWhile (tTest (tOp rLtI (tOp rSubI (tVar 3) (tC (.int 1))) (tVar 1))) (tSeq (tAsg (tOp rMulI (tVar 3) (tVar 0)) (gName 3))
      (tAsg (tOp rAddI (tVar 2) (tC (.int 1))) (gName 2))))
      (tRet (tVar 2))))
theorem pr_renewed_long {P : Program} {w : World} {K : PySem.W.Frag} {mg : Str → Option Value} {base : Heap} {a : Ad} (T : Tx K mg a) {f : Addr} {cdv : Value} {A : Around} {outer : List Env} {s : Shared} {H : Hp} {E : XK} (hr : Room 0 (A.deeper (envOfC "renewed_long" (defScope s_renewed_long) s.heap.objs.size f cdv))) :
    QSs (cxOf CX0 P w K mg base ["letters", "many", "long", "texts"] "renewed_long" (defScope s_renewed_long) f cdv A outer s H E).nox (defBody s_renewed_long) (rd_renewed_long K a) := by
  exact kss_cons (ks_set (i := 2) sc_renewed_long.nd ke_int)
      (kss_cons (ks_set (i := 3) sc_renewed_long.nd ke_int)
      (kss_cons (ks_while (kt_cmp op_lt (ke_op op_sub (kv 3) ke_int) (kv 1)) (kss_cons (ks_set (i := 3) sc_renewed_long.nd (ke_op op_mulB (kv 3) (kv 0)))
      (kss_one (ks_set (i := 2) sc_renewed_long.nd (ke_op op_add (kv 2) ke_int)))))
      (kss_one (ks_ret (kv 2)))))
theorem sc_renewed : FnScope ["letters", "many", "long"] ["letters", "many"] (defScope s_renewed) := ⟨rfl, rfl, rfl, by decide +kernel, rfl, by decide +kernel, by decide +kernel⟩
/-- slots: 0 letters, 1 many, 2 long -/
def rd_renewed (K : PySem.W.Frag) (a : Ad) : TS :=
    tSeq (tAsg (tCall spRenLong [] E0 (tCons (tVar 0) (tCons (tVar 1) tNil))) (gName 2))
      (tRet (tComp (iList K (tCall spSpread [] E0 (tCons (tVar 1) (tCons (tCall spPower [] E0 (tCons (tVar 0) (tCons (tVar 2) tNil))) tNil)))) [0, 2] tYes (tCall spMarkOf [] E0 (tCons (tVar 1) (tCons (tVar 0) (tCons (tVar 2) tNil))))))
theorem pr_renewed {P : Program} {w : World} {K : PySem.W.Frag} {mg : Str → Option Value} {base : Heap} {a : Ad} (T : Tx K mg a) (G_renewed_long : FnOk P w K mg base CX0 1 a.f_renewed_long a.fd_renewed_long ["letters", "many"] spRenLong) (G_power : FnOk P w K mg base CX0 1 a.f_power a.fd_power ["letters", "long"] spPower) (G_spread : FnOk P w K mg base CX0 1 a.f_spread a.fd_spread ["many", "whole"] spSpread) (G_mark_of : FnOk P w K mg base CX0 1 a.f_mark_of a.fd_mark_of ["letters", "number", "long"] spMarkOf) {f : Addr} {cdv : Value} {A : Around} {outer : List Env} {s : Shared} {H : Hp} {E : XK} (hr : Room 1 (A.deeper (envOfC "renewed" (defScope s_renewed) s.heap.objs.size f cdv))) :
    QSs (cxOf CX0 P w K mg base ["letters", "many", "long"] "renewed" (defScope s_renewed) f cdv A outer s H E).nox (defBody s_renewed) (rd_renewed K a) := by
  exact kss_cons (ks_setc (i := 2) sc_renewed.nd (ke_call G_renewed_long (by exact hr.mono (by decide)) T.g_renewed_long T.F_renewed_long.kp T.b_renewed_long pass0 (ka_cons (kvc 0) (ka_cons (kv 1) ka_nil))))
      (kss_one (ks_ret (ke_comp [("letters", 0), ("long", 2)] (ki_list (ke_call G_spread (by exact hr.mono (by decide)) T.g_spread T.F_spread.kp T.b_spread pass0 (ka_cons (kv 1) (ka_cons (ke_call G_power (by exact hr.mono (by decide)) T.g_power T.F_power.kp T.b_power pass0 (ka_cons (kvc 0) (ka_cons (kvc 2) ka_nil))) ka_nil)))) (fun _ _ _ _ _ => ⟨kts_nil, ke_call G_mark_of (by exact hr.mono (by decide)) T.g_mark_of T.F_mark_of.kp T.b_mark_of pass0 (ka_cons (kvc 1) (ka_cons (kv 0) (ka_cons (kvc 2) ka_nil)))⟩))))
theorem sc_renewal_rows : FnScope ["letters", "known", "fresh", "rows", "given", "mark", "stands"] ["letters", "known"] (defScope s_renewal_rows) := ⟨rfl, rfl, rfl, by decide +kernel, rfl, by decide +kernel, by decide +kernel⟩
/-- slots: 0 letters, 1 known, 2 fresh, 3 rows, 4 given, 5 mark, 6 stands -/
def rd_renewal_rows (K : PySem.W.Frag) (a : Ad) : TS :=
    tSeq (tAsg (tCall spRenewed [] E0 (tCons (tVar 0) (tCons (tCB (rLenL K) (tCons (tComp2 K (iList K (tVar 1)) [] (tB (tVar 1)) (tVar 0)) tNil)) tNil))) (gName 2))
      (tSeq (tAsg (tLst tNil) (gName 3))
      (tSeq (tAsg (tC (.int 0)) (gName 4))
      (tSeq (tFor (iList K (tVar 1)) (gTup K 2 (gCons (gName 5) (gCons (gName 6) gNil))) (tIfS (tB (tVar 6)) (tSeq (tDrop (tBM K "list" rAppend (tVar 3) (tCons (tTup (tCons (tVar 5) (tCons (tOp (rIxL K) (tVar 2) (tVar 4)) tNil))) tNil)))
      (tAsg (tOp rAddI (tVar 4) (tC (.int 1))) (gName 4))) (tDrop (tBM K "list" rAppend (tVar 3) (tCons (tTup (tCons (tVar 5) (tCons (tC .non) tNil))) tNil)))))
      (tRet (tVar 3)))))
theorem pr_renewal_rows {P : Program} {w : World} {K : PySem.W.Frag} {mg : Str → Option Value} {base : Heap} {a : Ad} (T : Tx K mg a) (G_renewed : FnOk P w K mg base CX0 2 a.f_renewed a.fd_renewed ["letters", "many"] spRenewed) {f : Addr} {cdv : Value} {A : Around} {outer : List Env} {s : Shared} {H : Hp} {E : XK} (hr : Room 2 (A.deeper (envOfC "renewal_rows" (defScope s_renewal_rows) s.heap.objs.size f cdv))) :
    QSs (cxOf CX0 P w K mg base ["letters", "known", "fresh", "rows", "given", "mark", "stands"] "renewal_rows" (defScope s_renewal_rows) f cdv A outer s H E).nox (defBody s_renewal_rows) (rd_renewal_rows K a) := by
  exact kss_cons (ks_set (i := 2) sc_renewal_rows.nd (ke_call G_renewed (by exact hr.mono (by decide)) T.g_renewed T.F_renewed.kp T.b_renewed pass0 (ka_cons (kv 0) (ka_cons (ke_callB call_len_seq T.n_len PyProof.Rows.Boot.«len» (ka_cons (ke_comp2 [] (ki_list (kv 1)) (fun _ _ _ _ _ => ⟨kts_one (kt_val (kv 1)), kv 0⟩)) ka_nil)) ka_nil))))
      (kss_cons (ks_set (i := 3) sc_renewal_rows.nd (ke_lst ka_nil))
      (kss_cons (ks_set (i := 4) sc_renewal_rows.nd ke_int)
      (kss_cons (ks_for (ki_list (kv 1)) (kg_tup (kgs_cons (kg_name (i := 5) sc_renewal_rows.nd) (kgs_cons (kg_name (i := 6) sc_renewal_rows.nd) kgs_nil))) (kss_one (ks_if (kt_val (kv 6)) (kss_cons (ks_expr (ke_bm PySem.F.plainAttrs_list PySem.F.slot_list_append PySem.F.type_list_append mt_append (kv 3) (ka_cons (ke_tup (ka_cons (kv 5) (ka_cons (ke_ix ix_list (kv 2) (kv 4)) ka_nil))) ka_nil)))
      (kss_one (ks_set (i := 4) sc_renewal_rows.nd (ke_op op_add (kv 4) ke_int)))) (kss_one (ks_expr (ke_bm PySem.F.plainAttrs_list PySem.F.slot_list_append PySem.F.type_list_append mt_append (kv 3) (ka_cons (ke_tup (ka_cons (kv 5) (ka_cons ke_non ka_nil))) ka_nil)))))))
      (kss_one (ks_ret (kv 3))))))
theorem sc_draw : FnScope ["_law_script", "_law_k", "_law_many", "_law_cell", "_law_j", "_law_seed"] ["_law_script", "_law_k", "_law_many"] (defScope s_draw) := ⟨rfl, rfl, rfl, by decide +kernel, rfl, by decide +kernel, by decide +kernel⟩
/-- slots: 0 script, 1 k, 2 many, 3 cell, 4 j, 5 seed -/
def rd_draw (K : PySem.W.Frag) (a : Ad) : TS :=
    tSeq (tAsg (tIf (tTest (tOp rGtI (tCB (rLenL K) (tCons (tVar 0) tNil)) (tC (.int 0)))) (tOp (rIxL K) (tVar 0) (tOp rModI (tVar 1) (tCB (rLenL K) (tCons (tVar 0) tNil)))) (tC (.int 0))) (gName 3))
      (tSeq (tIfS (tAnd (tTest (tOp rGtI (tCB (rLenL K) (tCons (tVar 0) tNil)) (tC (.int 0)))) (tTest (tOp rEq (tOp rModI (tOp rDivI (tOp (rIxL K) (tVar 0) (tC (.int 0))) (tC (.int 7))) (tC (.int 2))) (tC (.int 1))))) (tSeq (tFor (iRng1 (tCons (tOp rModI (tOp rDivI (tVar 1) (tCB (rLenL K) (tCons (tVar 0) tNil))) (tC (.int 60))) tNil)) (gName 4) (tAsg (tOp rDivI (tVar 3) (tC (.int 1000003))) (gName 3)))
      (tRet (tOp rModI (tOp rModI (tVar 3) (tC (.int 1000003))) (tVar 2)))) (tNext))
      (tSeq (tAsg (tOp rAddI (tOp rAddI (tOp rModI (tVar 3) (tC (.int 1000003))) (tOp rMulI (tOp rMulI (tC (.int 31)) (tVar 1)) (tVar 1))) (tC (.int 1))) (gName 5))
      (tRet (tOp rModI (tOp rModI (tOp rMulI (tOp rModI (tOp rMulI (tVar 5) (tC (.int 48271))) (tC (.int 999983))) (tC (.int 7919))) (tC (.int 524287))) (tVar 2)))))
theorem pr_draw {P : Program} {w : World} {K : PySem.W.Frag} {mg : Str → Option Value} {base : Heap} {a : Ad} (T : Tx K mg a) {f : Addr} {cdv : Value} {A : Around} {outer : List Env} {s : Shared} {H : Hp} {E : XK} (hr : Room 0 (A.deeper (envOfC "_law_draw" (defScope s_draw) s.heap.objs.size f cdv))) :
    QSs (cxOf CX0 P w K mg base ["_law_script", "_law_k", "_law_many", "_law_cell", "_law_j", "_law_seed"] "_law_draw" (defScope s_draw) f cdv A outer s H E).nox (defBody s_draw) (rd_draw K a) := by
  exact kss_cons (ks_set (i := 3) sc_draw.nd (ke_ifExp (kt_cmp op_gt (ke_callB call_len_seq T.n_len PyProof.Rows.Boot.«len» (ka_cons (kv 0) ka_nil)) ke_int) (ke_ix ix_list (kv 0) (ke_op op_mod (kv 1) (ke_callB call_len_seq T.n_len PyProof.Rows.Boot.«len» (ka_cons (kv 0) ka_nil)))) ke_int))
      (kss_cons (ks_if (kt_w (kw_and (kt_cmp op_gt (ke_callB call_len_seq T.n_len PyProof.Rows.Boot.«len» (ka_cons (kv 0) ka_nil)) ke_int) (kw_and1 (kt_cmp op_eq (ke_op op_mod (ke_op op_fdiv (ke_ix ix_list (kv 0) ke_int) ke_int) ke_int) ke_int)))) (kss_cons (ks_for (ki_range1 T.n_range (ka_cons (ke_op op_mod (ke_op op_fdiv (kv 1) (ke_callB call_len_seq T.n_len PyProof.Rows.Boot.«len» (ka_cons (kv 0) ka_nil))) ke_int) ka_nil)) (kg_name (i := 4) sc_draw.nd) (kss_one (ks_set (i := 3) sc_draw.nd (ke_op op_fdiv (kv 3) ke_int))))
      (kss_one (ks_ret (ke_op op_mod (ke_op op_mod (kv 3) ke_int) (kv 2))))) (kss_nil))
      (kss_cons (ks_set (i := 5) sc_draw.nd (ke_op op_add (ke_op op_add (ke_op op_mod (kv 3) ke_int) (ke_op op_mulB (ke_op op_mulB ke_int (kv 1)) (kv 1))) ke_int))
      (kss_one (ks_ret (ke_op op_mod (ke_op op_mod (ke_op op_mulB (ke_op op_mod (ke_op op_mulB (kv 5) ke_int) ke_int) ke_int) ke_int) (kv 2))))))
theorem sc_letters : FnScope ["_law_script"] ["_law_script"] (defScope s_letters) := ⟨rfl, rfl, rfl, by decide +kernel, rfl, by decide +kernel, by decide +kernel⟩
/-- slots: 0 script -/
def rd_letters (K : PySem.W.Frag) (a : Ad) : TS :=
    tRet (tOp (rIxL K) (tLst (tCons (tC (.int 2)) (tCons (tC (.int 3)) (tCons (tC (.int 4)) (tCons (tC (.int 10)) (tCons (tC (.int 26)) (tCons (tOp rAddI (tC (.int 2)) (tCall (spDraw K) [] E0 (tCons (tVar 0) (tCons (tC (.int 1)) (tCons (tC (.int 25)) tNil))))) tNil))))))) (tCall (spDraw K) [] E0 (tCons (tVar 0) (tCons (tC (.int 0)) (tCons (tC (.int 6)) tNil)))))
theorem pr_letters {P : Program} {w : World} {K : PySem.W.Frag} {mg : Str → Option Value} {base : Heap} {a : Ad} (T : Tx K mg a) (G_draw : FnOk P w K mg base CX0 1 a.f_draw a.fd_draw ["_law_script", "_law_k", "_law_many"] (spDraw K)) {f : Addr} {cdv : Value} {A : Around} {outer : List Env} {s : Shared} {H : Hp} {E : XK} (hr : Room 1 (A.deeper (envOfC "_law_letters" (defScope s_letters) s.heap.objs.size f cdv))) :
    QSs (cxOf CX0 P w K mg base ["_law_script"] "_law_letters" (defScope s_letters) f cdv A outer s H E).nox (defBody s_letters) (rd_letters K a) := by
  exact kss_one (ks_ret (ke_ix ix_list (ke_lst (ka_cons ke_int (ka_cons ke_int (ka_cons ke_int (ka_cons ke_int (ka_cons ke_int (ka_cons (ke_op op_add ke_int (ke_call G_draw (by exact hr.mono (by decide)) T.g_draw T.F_draw.kp T.b_draw pass0 (ka_cons (kv 0) (ka_cons ke_int (ka_cons ke_int ka_nil))))) ka_nil))))))) (ke_call G_draw (by exact hr.mono (by decide)) T.g_draw T.F_draw.kp T.b_draw pass0 (ka_cons (kv 0) (ka_cons ke_int (ka_cons ke_int ka_nil))))))
theorem sc_text : FnScope ["_law_letters_here", "_law_number", "_law_long", "_law_text_here", "_law_k"] ["_law_letters_here", "_law_number", "_law_long"] (defScope s_text) := ⟨rfl, rfl, rfl, by decide +kernel, rfl, by decide +kernel, by decide +kernel⟩
/-- slots: 0 letters_here, 1 number, 2 long, 3 text_here, 4 k -/
def rd_text (K : PySem.W.Frag) (a : Ad) : TS :=
    tSeq (tAsg (tC (.str (txt []))) (gName 3))
      (tSeq (tFor (iRng1 (tCons (tVar 2) tNil)) (gName 4) (tSeq (tAsg (tOp rAddS (tOp rIxStr (tC (.str (txt ABC))) (tOp rModI (tVar 1) (tVar 0))) (tVar 3)) (gName 3))
      (tAsg (tOp rDivI (tVar 1) (tVar 0)) (gName 1))))
      (tRet (tBM K "str" rRstrip (tVar 3) (tCons (tC (.str (txt [97]))) tNil))))
theorem pr_text {P : Program} {w : World} {K : PySem.W.Frag} {mg : Str → Option Value} {base : Heap} {a : Ad} (T : Tx K mg a) {f : Addr} {cdv : Value} {A : Around} {outer : List Env} {s : Shared} {H : Hp} {E : XK} (hr : Room 0 (A.deeper (envOfC "_law_text" (defScope s_text) s.heap.objs.size f cdv))) :
    QSs (cxOf CX0 P w K mg base ["_law_letters_here", "_law_number", "_law_long", "_law_text_here", "_law_k"] "_law_text" (defScope s_text) f cdv A outer s H E).nox (defBody s_text) (rd_text K a) := by
  exact kss_cons (ks_set (i := 3) sc_text.nd (ke_txt (by kernel_rfl)))
      (kss_cons (ks_for (ki_range1 T.n_range (ka_cons (kv 2) ka_nil)) (kg_name (i := 4) sc_text.nd) (kss_cons (ks_set (i := 3) sc_text.nd (ke_op op_addS (ke_ix ix_strL (ke_txt small_eq) (ke_op op_mod (kv 1) (kv 0))) (kv 3)))
      (kss_one (ks_set (i := 1) sc_text.nd (ke_op op_fdiv (kv 1) (kv 0))))))
      (kss_one (ks_ret (ke_bm PySem.F.plainAttrs_str PySem.F.slot_str_rstrip PySem.F.type_str_rstrip mt_rstrip (kv 3) (ka_cons (ke_txt (by kernel_rfl)) ka_nil)))))
theorem sc_mark : FnScope ["_law_script", "_law_base", "_law_letters_here", "_law_signs", "_law_size", "_law_few", "_law_text_here"] ["_law_script", "_law_base", "_law_letters_here"] (defScope s_mark) := ⟨rfl, rfl, rfl, by decide +kernel, rfl, by decide +kernel, by decide +kernel⟩
/-- slots: 0 script, 1 base, 2 letters_here, 3 signs, 4 size, 5 few, 6 text_here -/
def rd_mark (K : PySem.W.Frag) (a : Ad) : TS :=
    tSeq (tAsg (tC (.str (txt ABC))) (gName 3))
      (tSeq (tAsg (tOp (rIxL K) (tLst (tCons (tCall (spDraw K) [] E0 (tCons (tVar 0) (tCons (tVar 1) (tCons (tC (.int 4)) tNil)))) (tCons (tCall (spDraw K) [] E0 (tCons (tVar 0) (tCons (tVar 1) (tCons (tC (.int 8)) tNil)))) (tCons (tC (.int 40)) tNil)))) (tOp rDivI (tCall (spDraw K) [] E0 (tCons (tVar 0) (tCons (tOp rAddI (tVar 1) (tC (.int 1))) (tCons (tC (.int 9)) tNil)))) (tC (.int 4)))) (gName 4))
      (tSeq (tAsg (tOp (rIxL K) (tLst (tCons (tVar 2) (tCons (tCB rMin2 (tCons (tC (.int 2)) (tCons (tVar 2) tNil))) tNil))) (tCall (spDraw K) [] E0 (tCons (tVar 0) (tCons (tOp rAddI (tVar 1) (tC (.int 2))) (tCons (tC (.int 2)) tNil))))) (gName 5))
      (tSeq (tAsg (tBM K "str" (rJoin K) (tC (.str (txt []))) (tCons (tComp (iRng1 (tCons (tVar 4) tNil)) [3, 0, 5, 1] tYes (tOp rIxStr (tVar 1) (tCall (spDraw K) [] E0 (tCons (tVar 2) (tCons (tOp rAddI (tOp rAddI (tVar 4) (tC (.int 3))) (tOp rMulI (tC (.int 2)) (tVar 0))) (tCons (tVar 3) tNil)))))) tNil)) (gName 6))
      (tRet (tOp rAddS (tVar 6) (tOp rIxStr (tVar 3) (tOp rAddI (tC (.int 1)) (tCall (spDraw K) [] E0 (tCons (tVar 0) (tCons (tOp rAddI (tVar 1) (tC (.int 90))) (tCons (tOp rSubI (tVar 2) (tC (.int 1))) tNil)))))))))))
theorem pr_mark {P : Program} {w : World} {K : PySem.W.Frag} {mg : Str → Option Value} {base : Heap} {a : Ad} (T : Tx K mg a) (G_draw : FnOk P w K mg base CX0 1 a.f_draw a.fd_draw ["_law_script", "_law_k", "_law_many"] (spDraw K)) {f : Addr} {cdv : Value} {A : Around} {outer : List Env} {s : Shared} {H : Hp} {E : XK} (hr : Room 1 (A.deeper (envOfC "_law_mark" (defScope s_mark) s.heap.objs.size f cdv))) :
    QSs (cxOf CX0 P w K mg base ["_law_script", "_law_base", "_law_letters_here", "_law_signs", "_law_size", "_law_few", "_law_text_here"] "_law_mark" (defScope s_mark) f cdv A outer s H E).nox (defBody s_mark) (rd_mark K a) := by
  exact kss_cons (ks_setc (i := 3) sc_mark.nd (ke_txt small_eq))
      (kss_cons (ks_set (i := 4) sc_mark.nd (ke_ix ix_list (ke_lst (ka_cons (ke_call G_draw (by exact hr.mono (by decide)) T.g_draw T.F_draw.kp T.b_draw pass0 (ka_cons (kvc 0) (ka_cons (kvc 1) (ka_cons ke_int ka_nil)))) (ka_cons (ke_call G_draw (by exact hr.mono (by decide)) T.g_draw T.F_draw.kp T.b_draw pass0 (ka_cons (kvc 0) (ka_cons (kvc 1) (ka_cons ke_int ka_nil)))) (ka_cons ke_int ka_nil)))) (ke_op op_fdiv (ke_call G_draw (by exact hr.mono (by decide)) T.g_draw T.F_draw.kp T.b_draw pass0 (ka_cons (kvc 0) (ka_cons (ke_op op_add (kvc 1) ke_int) (ka_cons ke_int ka_nil)))) ke_int)))
      (kss_cons (ks_setc (i := 5) sc_mark.nd (ke_ix ix_list (ke_lst (ka_cons (kv 2) (ka_cons (ke_callB (call_min2 (by kernel_rfl)) T.n_min PyProof.Rows.Boot.«min» (ka_cons ke_int (ka_cons (kv 2) ka_nil))) ka_nil))) (ke_call G_draw (by exact hr.mono (by decide)) T.g_draw T.F_draw.kp T.b_draw pass0 (ka_cons (kvc 0) (ka_cons (ke_op op_add (kvc 1) ke_int) (ka_cons ke_int ka_nil))))))
      (kss_cons (ks_set (i := 6) sc_mark.nd (ke_bm PySem.F.plainAttrs_str PySem.F.slot_str_join PySem.F.type_str_join mt_join (ke_txt (by kernel_rfl)) (ka_cons (ke_comp [("_law_signs", 3), ("_law_script", 0), ("_law_few", 5), ("_law_base", 1)] (ki_range1 T.n_range (ka_cons (kv 4) ka_nil)) (fun _ _ _ _ _ => ⟨kts_nil, ke_ix ix_strL (kvc 1) (ke_call G_draw (by exact hr.mono (by decide)) T.g_draw T.F_draw.kp T.b_draw pass0 (ka_cons (kvc 2) (ka_cons (ke_op op_add (ke_op op_add (kvc 4) ke_int) (ke_op op_mulB ke_int (kv 0))) (ka_cons (kvc 3) ka_nil))))⟩)) ka_nil)))
      (kss_one (ks_ret (ke_op op_addS (kv 6) (ke_ix ix_strL (kvc 3) (ke_op op_add ke_int (ke_call G_draw (by exact hr.mono (by decide)) T.g_draw T.F_draw.kp T.b_draw pass0 (ka_cons (kvc 0) (ka_cons (ke_op op_add (kvc 1) ke_int) (ka_cons (ke_op op_sub (kv 2) ke_int) ka_nil))))))))))))
theorem sc_marks : FnScope ["_law_script", "_law_base", "_law_letters_here", "_law_many", "_law_marks_here", "_law_k", "_law_mark_here", "_law_other"] ["_law_script", "_law_base", "_law_letters_here", "_law_many"] (defScope s_marks) := ⟨rfl, rfl, rfl, by decide +kernel, rfl, by decide +kernel, by decide +kernel⟩
/-- slots: 0 script, 1 base, 2 letters_here, 3 many, 4 marks_here, 5 k, 6 mark_here, 7 other -/
def rd_marks (K : PySem.W.Frag) (a : Ad) : TS :=
    tSeq (tAsg (tLst tNil) (gName 4))
      (tSeq (tFor (iRng1 (tCons (tVar 3) tNil)) (gName 5) (tSeq (tAsg (tCall (spMark41 K) [] E0 (tCons (tVar 0) (tCons (tOp rAddI (tVar 1) (tOp rMulI (tC (.int 97)) (tVar 5))) (tCons (tVar 2) tNil)))) (gName 6))
      (tSeq (tIfS (tAnd (tTest (tOp rGtI (tCB (rLenL K) (tCons (tVar 4) tNil)) (tC (.int 0)))) (tTest (tOp rEq (tCall (spDraw K) [] E0 (tCons (tVar 0) (tCons (tOp rAddI (tOp rAddI (tVar 1) (tOp rMulI (tC (.int 13)) (tVar 5))) (tC (.int 5))) (tCons (tC (.int 3)) tNil)))) (tC (.int 0))))) (tSeq (tAsg (tOp (rIxL K) (tVar 4) (tCall (spDraw K) [] E0 (tCons (tVar 0) (tCons (tOp rAddI (tOp rAddI (tVar 1) (tOp rMulI (tC (.int 13)) (tVar 5))) (tC (.int 6))) (tCons (tCB (rLenL K) (tCons (tVar 4) tNil)) tNil))))) (gName 7))
      (tAsg (tOp rAddS (tSl rSlS (tVar 7) tNoPart (tPart (tOp rAddI (tC (.int 1)) (tCall (spDraw K) [] E0 (tCons (tVar 0) (tCons (tOp rAddI (tOp rAddI (tVar 1) (tOp rMulI (tC (.int 13)) (tVar 5))) (tC (.int 7))) (tCons (tCB rLenS (tCons (tVar 7) tNil)) tNil))))))) (tSl rSlS (tVar 6) (tPart (tUn rNegI (tC (.int 2)))) tNoPart)) (gName 6))) (tNext))
      (tIfS (tTest (tOp (rIn K true) (tVar 6) (tVar 4))) (tDrop (tBM K "list" rAppend (tVar 4) (tCons (tVar 6) tNil))) (tNext)))))
      (tRet (tCB (rSortedS K) (tCons (tVar 4) tNil))))
theorem pr_marks {P : Program} {w : World} {K : PySem.W.Frag} {mg : Str → Option Value} {base : Heap} {a : Ad} (T : Tx K mg a) (G_mark : FnOk P w K mg base CX0 2 a.f_mark a.fd_mark ["_law_script", "_law_base", "_law_letters_here"] (spMark41 K)) (G_draw : FnOk P w K mg base CX0 1 a.f_draw a.fd_draw ["_law_script", "_law_k", "_law_many"] (spDraw K)) {f : Addr} {cdv : Value} {A : Around} {outer : List Env} {s : Shared} {H : Hp} {E : XK} (hr : Room 2 (A.deeper (envOfC "_law_marks" (defScope s_marks) s.heap.objs.size f cdv))) :
    QSs (cxOf CX0 P w K mg base ["_law_script", "_law_base", "_law_letters_here", "_law_many", "_law_marks_here", "_law_k", "_law_mark_here", "_law_other"] "_law_marks" (defScope s_marks) f cdv A outer s H E).nox (defBody s_marks) (rd_marks K a) := by
  exact kss_cons (ks_set (i := 4) sc_marks.nd (ke_lst ka_nil))
      (kss_cons (ks_for (ki_range1 T.n_range (ka_cons (kv 3) ka_nil)) (kg_name (i := 5) sc_marks.nd) (kss_cons (ks_set (i := 6) sc_marks.nd (ke_call G_mark (by exact hr.mono (by decide)) T.g_mark T.F_mark.kp T.b_mark pass0 (ka_cons (kv 0) (ka_cons (ke_op op_add (kv 1) (ke_op op_mulB ke_int (kv 5))) (ka_cons (kv 2) ka_nil)))))
      (kss_cons (ks_if (kt_w (kw_and (kt_cmp op_gt (ke_callB call_len_seq T.n_len PyProof.Rows.Boot.«len» (ka_cons (kv 4) ka_nil)) ke_int) (kw_and1 (kt_cmp op_eq (ke_call G_draw (by exact hr.mono (by decide)) T.g_draw T.F_draw.kp T.b_draw pass0 (ka_cons (kv 0) (ka_cons (ke_op op_add (ke_op op_add (kv 1) (ke_op op_mulB ke_int (kv 5))) ke_int) (ka_cons ke_int ka_nil)))) ke_int)))) (kss_cons (ks_set (i := 7) sc_marks.nd (ke_ix ix_list (kv 4) (ke_call G_draw (by exact hr.mono (by decide)) T.g_draw T.F_draw.kp T.b_draw pass0 (ka_cons (kv 0) (ka_cons (ke_op op_add (ke_op op_add (kv 1) (ke_op op_mulB ke_int (kv 5))) ke_int) (ka_cons (ke_callB call_len_seq T.n_len PyProof.Rows.Boot.«len» (ka_cons (kv 4) ka_nil)) ka_nil))))))
      (kss_one (ks_set (i := 6) sc_marks.nd (ke_op op_addS (ke_slice sl_str (kv 7) ko_none (ko_some (ke_op op_add ke_int (ke_call G_draw (by exact hr.mono (by decide)) T.g_draw T.F_draw.kp T.b_draw pass0 (ka_cons (kv 0) (ka_cons (ke_op op_add (ke_op op_add (kv 1) (ke_op op_mulB ke_int (kv 5))) ke_int) (ka_cons (ke_callB call_lenS T.n_len PyProof.Rows.Boot.«len» (ka_cons (kv 7) ka_nil)) ka_nil))))))) (ke_slice sl_str (kv 6) (ko_some (ke_un un_neg ke_int)) ko_none))))) (kss_nil))
      (kss_one (ks_if (kt_cmp op_notIn_seq (kv 6) (kv 4)) (kss_one (ks_expr (ke_bm PySem.F.plainAttrs_list PySem.F.slot_list_append PySem.F.type_list_append mt_append (kv 4) (ka_cons (kv 6) ka_nil)))) (kss_nil))))))
      (kss_one (ks_ret (ke_callB call_sortedS T.n_sorted PyProof.Rows.Boot.«sorted» (ka_cons (kv 4) ka_nil)))))
theorem sc_due : FnScope ["_law_letters_here", "_law_known", "_law_standing", "_law_long", "_law_count", "_law_rows", "_law_at", "_law_mark_here", "_law_stands", "_law_new"] ["_law_letters_here", "_law_known"] (defScope s_due) := ⟨rfl, rfl, rfl, by decide +kernel, rfl, by decide +kernel, by decide +kernel⟩
/-- slots: 0 letters_here, 1 known, 2 standing, 3 long, 4 count, 5 rows, 6 at, 7 mark_here, 8 stands, 9 new -/
def rd_due (K : PySem.W.Frag) (a : Ad) : TS :=
    tSeq (tCompSet2 K 2 (iList K (tVar 1)) [] (tB (tVar 1)) (tVar 0))
      (tSeq (tAsg (tC (.int 0)) (gName 3))
      (tSeq (tAsg (tC (.int 1)) (gName 4))
      (tSeq (tWhile (tTest (tOp rLtI (tOp rSubI (tVar 4) (tC (.int 1))) (tCB (rLenL K) (tCons (tVar 2) tNil)))) (tSeq (tAsg (tOp rAddI (tVar 3) (tC (.int 1))) (gName 3))
      (tAsg (tOp rMulI (tVar 4) (tVar 0)) (gName 4))))
      (tSeq (tAsg (tLst tNil) (gName 5))
      (tSeq (tAsg (tC (.int 0)) (gName 6))
      (tSeq (tFor (iList K (tVar 1)) (gTup K 2 (gCons (gName 7) (gCons (gName 8) gNil))) (tSeq (tAsg (tC .non) (gName 9))
      (tSeq (tIfS (tB (tVar 8)) (tSeq (tAsg (tOp rAddI (tVar 6) (tC (.int 1))) (gName 6))
      (tAsg (tCall spText [] E0 (tCons (tVar 0) (tCons (tOp rDivI (tOp rMulI (tVar 6) (tVar 4)) (tOp rAddI (tCB (rLenL K) (tCons (tVar 2) tNil)) (tC (.int 1)))) (tCons (tVar 3) tNil)))) (gName 9))) (tNext))
      (tDrop (tBM K "list" rAppend (tVar 5) (tCons (tTup (tCons (tVar 7) (tCons (tVar 9) tNil))) tNil))))))
      (tRet (tVar 5))))))))
theorem pr_due {P : Program} {w : World} {K : PySem.W.Frag} {mg : Str → Option Value} {base : Heap} {a : Ad} (T : Tx K mg a) (G_text : FnOk P w K mg base CX0 1 a.f_text a.fd_text ["_law_letters_here", "_law_number", "_law_long"] spText) {f : Addr} {cdv : Value} {A : Around} {outer : List Env} {s : Shared} {H : Hp} {E : XK} (hr : Room 1 (A.deeper (envOfC "_law_due" (defScope s_due) s.heap.objs.size f cdv))) :
    QSs (cxOf CX0 P w K mg base ["_law_letters_here", "_law_known", "_law_standing", "_law_long", "_law_count", "_law_rows", "_law_at", "_law_mark_here", "_law_stands", "_law_new"] "_law_due" (defScope s_due) f cdv A outer s H E).nox (defBody s_due) (rd_due K a) := by
  exact kss_cons (ks_comp2 (i := 2) [] sc_due.nd (ki_list (kv 1)) (fun _ _ _ _ _ => ⟨kts_one (kt_val (kv 1)), kv 0⟩))
      (kss_cons (ks_set (i := 3) sc_due.nd ke_int)
      (kss_cons (ks_set (i := 4) sc_due.nd ke_int)
      (kss_cons (ks_while (kt_cmp op_lt (ke_op op_sub (kv 4) ke_int) (ke_callB call_len_seq T.n_len PyProof.Rows.Boot.«len» (ka_cons (kv 2) ka_nil))) (kss_cons (ks_set (i := 3) sc_due.nd (ke_op op_add (kv 3) ke_int))
      (kss_one (ks_set (i := 4) sc_due.nd (ke_op op_mulB (kv 4) (kv 0))))))
      (kss_cons (ks_set (i := 5) sc_due.nd (ke_lst ka_nil))
      (kss_cons (ks_set (i := 6) sc_due.nd ke_int)
      (kss_cons (ks_for (ki_list (kv 1)) (kg_tup (kgs_cons (kg_name (i := 7) sc_due.nd) (kgs_cons (kg_name (i := 8) sc_due.nd) kgs_nil))) (kss_cons (ks_set (i := 9) sc_due.nd ke_non)
      (kss_cons (ks_if (kt_val (kv 8)) (kss_cons (ks_set (i := 6) sc_due.nd (ke_op op_add (kv 6) ke_int))
      (kss_one (ks_set (i := 9) sc_due.nd (ke_call G_text (by exact hr.mono (by decide)) T.g_text T.F_text.kp T.b_text pass0 (ka_cons (kv 0) (ka_cons (ke_op op_fdiv (ke_op op_mulB (kv 6) (kv 4)) (ke_op op_add (ke_callB call_len_seq T.n_len PyProof.Rows.Boot.«len» (ka_cons (kv 2) ka_nil)) ke_int)) (ka_cons (kv 3) ka_nil))))))) (kss_nil))
      (kss_one (ks_expr (ke_bm PySem.F.plainAttrs_list PySem.F.slot_list_append PySem.F.type_list_append mt_append (kv 5) (ka_cons (ke_tup (ka_cons (kv 7) (ka_cons (kv 9) ka_nil))) ka_nil)))))))
      (kss_one (ks_ret (kv 5)))))))))
theorem sc_law : FnScope ["_law_script", "_law_letters_here", "_law_marks_here", "_law_way", "_law_known", "_law_k", "_law_stands", "_law_due_here", "_law_handed", "_law_found", "_law_one"] ["_law_script"] (defScope s_law) := ⟨rfl, rfl, rfl, by decide +kernel, rfl, by decide +kernel, by decide +kernel⟩
/-- slots: 0 script, 1 letters_here, 2 marks_here, 3 way, 4 known, 5 k, 6 stands, 7 due_here, 8 handed, 9 found, 10 one -/
def rd_law (K : PySem.W.Frag) (a : Ad) : TS :=
    tSeq (tAsg (tCall (spLetters K) [] E0 (tCons (tVar 0) tNil)) (gName 1))
      (tSeq (tAsg (tCall (spMarks K) [] E0 (tCons (tVar 0) (tCons (tC (.int 100)) (tCons (tVar 1) (tCons (tCall (spDraw K) [] E0 (tCons (tVar 0) (tCons (tC (.int 2)) (tCons (tC (.int 21)) tNil)))) tNil))))) (gName 2))
      (tSeq (tAsg (tCall (spDraw K) [] E0 (tCons (tVar 0) (tCons (tC (.int 3)) (tCons (tC (.int 6)) tNil)))) (gName 3))
      (tSeq (tAsg (tLst tNil) (gName 4))
      (tSeq (tFor (iRng1 (tCons (tCB (rLenL K) (tCons (tVar 2) tNil)) tNil)) (gName 5) (tSeq (tAsg (tOp rGtI (tCall (spDraw K) [] E0 (tCons (tVar 0) (tCons (tOp rAddI (tC (.int 10)) (tVar 5)) (tCons (tC (.int 3)) tNil)))) (tC (.int 0))) (gName 6))
      (tSeq (tIfS (tTest (tOp rLtI (tVar 3) (tC (.int 2)))) (tAsg (tOp rEq (tVar 3) (tC (.int 0))) (gName 6)) (tNext))
      (tDrop (tBM K "list" rAppend (tVar 4) (tCons (tTup (tCons (tOp (rIxL K) (tVar 2) (tVar 5)) (tCons (tVar 6) tNil))) tNil))))))
      (tSeq (tAsg (tCall (spRows K) [] E0 (tCons (tVar 1) (tCons (tVar 4) tNil))) (gName 7))
      (tSeq (tFor (iList K (tLst (tCons (tCB (rListOf K) (tCons (tVar 4) tNil)) (tCons (tCB (rListOf K) (tCons (tVar 4) tNil)) tNil)))) (gName 8) (tSeq (tAsg (tCall (spRows K) [] E0 (tCons (tVar 1) (tCons (tVar 8) tNil))) (gName 9))
      (tSeq (tIfS (tOr (tTest (tOp (rNeD K) (tVar 8) (tVar 4))) (tOr (tNot (tB (tIsi K "list" (tVar 9)))) (tTest (tOp (rNeD K) (tVar 9) (tVar 7))))) (tRet (tC (.bl false))) (tNext))
      (tSeq (tFor (iList K (tVar 9)) (gName 10) (tIfS (tOr (tNot (tB (tIsi K "tuple" (tVar 10)))) (tTest (tOp rNe (tCB (rLenL K) (tCons (tVar 10) tNil)) (tC (.int 2))))) (tRet (tC (.bl false))) (tNext)))
      (tSeq (tDrop (tBM0 K "list" rClear (tVar 8)))
      (tDrop (tBM K "list" rAppend (tVar 9) (tCons (tTup (tCons (tC (.str (txt [98]))) (tCons (tC .non) tNil))) tNil))))))))
      (tRet (tC (.bl true)))))))))
theorem pr_law {P : Program} {w : World} {K : PySem.W.Frag} {mg : Str → Option Value} {base : Heap} {a : Ad} (T : Tx K mg a) (G_letters : FnOk P w K mg base CX0 2 a.f_letters a.fd_letters ["_law_script"] (spLetters K)) (G_draw : FnOk P w K mg base CX0 1 a.f_draw a.fd_draw ["_law_script", "_law_k", "_law_many"] (spDraw K)) (G_marks : FnOk P w K mg base CX0 3 a.f_marks a.fd_marks ["_law_script", "_law_base", "_law_letters_here", "_law_many"] (spMarks K)) (G_due : FnOk P w K mg base CX0 2 a.f_due a.fd_due ["_law_letters_here", "_law_known"] (spRows K)) (G_renewal_rows : FnOk P w K mg base CX0 3 a.f_renewal_rows a.fd_renewal_rows ["letters", "known"] (spRows K)) {f : Addr} {cdv : Value} {A : Around} {outer : List Env} {s : Shared} {H : Hp} {E : XK} (hr : Room 3 (A.deeper (envOfC "law" (defScope s_law) s.heap.objs.size f cdv))) :
    QSs (cxOf CX0 P w K mg base ["_law_script", "_law_letters_here", "_law_marks_here", "_law_way", "_law_known", "_law_k", "_law_stands", "_law_due_here", "_law_handed", "_law_found", "_law_one"] "law" (defScope s_law) f cdv A outer s H E).nox (defBody s_law) (rd_law K a) := by
  have hu := Room.units hr
  exact kss_cons (ks_set (i := 1) sc_law.nd (ke_call G_letters (by exact hr.mono (by decide)) T.g_letters T.F_letters.kp T.b_letters pass0 (ka_cons (kv 0) ka_nil)))
      (kss_cons (ks_set (i := 2) sc_law.nd (ke_call G_marks (by exact hr.mono (by decide)) T.g_marks T.F_marks.kp T.b_marks pass0 (ka_cons (kv 0) (ka_cons ke_int (ka_cons (kv 1) (ka_cons (ke_call G_draw (by exact hr.mono (by decide)) T.g_draw T.F_draw.kp T.b_draw pass0 (ka_cons (kv 0) (ka_cons ke_int (ka_cons ke_int ka_nil)))) ka_nil))))))
      (kss_cons (ks_set (i := 3) sc_law.nd (ke_call G_draw (by exact hr.mono (by decide)) T.g_draw T.F_draw.kp T.b_draw pass0 (ka_cons (kv 0) (ka_cons ke_int (ka_cons ke_int ka_nil)))))
      (kss_cons (ks_set (i := 4) sc_law.nd (ke_lst ka_nil))
      (kss_cons (ks_for (ki_range1 T.n_range (ka_cons (ke_callB call_len_seq T.n_len PyProof.Rows.Boot.«len» (ka_cons (kv 2) ka_nil)) ka_nil)) (kg_name (i := 5) sc_law.nd) (kss_cons (ks_set (i := 6) sc_law.nd (ke_cmp op_gt (ke_call G_draw (by exact hr.mono (by decide)) T.g_draw T.F_draw.kp T.b_draw pass0 (ka_cons (kv 0) (ka_cons (ke_op op_add ke_int (kv 5)) (ka_cons ke_int ka_nil)))) ke_int))
      (kss_cons (ks_if (kt_cmp op_lt (kv 3) ke_int) (kss_one (ks_set (i := 6) sc_law.nd (ke_cmp op_eq (kv 3) ke_int))) (kss_nil))
      (kss_one (ks_expr (ke_bm PySem.F.plainAttrs_list PySem.F.slot_list_append PySem.F.type_list_append mt_append (kv 4) (ka_cons (ke_tup (ka_cons (ke_ix ix_list (kv 2) (kv 5)) (ka_cons (kv 6) ka_nil))) ka_nil)))))))
      (kss_cons (ks_set (i := 7) sc_law.nd (ke_call G_due (by exact hr.mono (by decide)) T.g_due T.F_due.kp T.b_due pass0 (ka_cons (kv 1) (ka_cons (kv 4) ka_nil))))
      (kss_cons (ks_for (ki_list (ke_lst (ka_cons (ke_callTy call_list_of T.n_list PyProof.Rows.Boot.«list» (ka_cons (kv 4) ka_nil)) (ka_cons (ke_callTy call_list_of T.n_list PyProof.Rows.Boot.«list» (ka_cons (kv 4) ka_nil)) ka_nil)))) (kg_name (i := 8) sc_law.nd) (kss_cons (ks_set (i := 9) sc_law.nd (ke_call G_renewal_rows (by exact hr.mono (by decide)) T.g_renewal_rows T.F_renewal_rows.kp T.b_renewal_rows pass0 (ka_cons (kv 1) (ka_cons (kv 8) ka_nil))))
      (kss_cons (ks_if (kt_w (kw_or (kt_cmp (op_neD hu) (kv 8) (kv 4)) (kw_or (kt_not (kt_val (ke_isi T.n_isinstance PyProof.Rows.Boot.«isinstance» T.n_list PyProof.Rows.Boot.«list» (kv 9)))) (kw_or1 (kt_cmp (op_neD hu) (kv 9) (kv 7)))))) (kss_one (ks_ret ke_bl)) (kss_nil))
      (kss_cons (ks_for (ki_list (kv 9)) (kg_name (i := 10) sc_law.nd) (kss_one (ks_if (kt_w (kw_or (kt_not (kt_val (ke_isi T.n_isinstance PyProof.Rows.Boot.«isinstance» T.n_tuple PyProof.Rows.Boot.«tuple» (kv 10)))) (kw_or1 (kt_cmp op_ne (ke_callB call_len_seq T.n_len PyProof.Rows.Boot.«len» (ka_cons (kv 10) ka_nil)) ke_int)))) (kss_one (ks_ret ke_bl)) (kss_nil))))
      (kss_cons (ks_expr (ke_bm0 PySem.F.plainAttrs_list PySem.F.slot_list_clear PySem.F.type_list_clear mt_clear (kv 8)))
      (kss_one (ks_expr (ke_bm PySem.F.plainAttrs_list PySem.F.slot_list_append PySem.F.type_list_append mt_append (kv 9) (ka_cons (ke_tup (ka_cons (ke_txt (by kernel_rfl)) (ka_cons ke_non ka_nil))) ka_nil)))))))))
      (kss_one (ks_ret ke_bl))))))))
def DueInv (L n : Nat) (p p1 p5 : Addr) (H2 : Hp) (ks : List (List Nat × Bool)) : Nat → L2.St → Hp → Prop := fun i σ H' => ∃ (g : Nat) (ys : List V) (ps : List (V × V)) (v7 v8 v9 : Option V), Same H2 H' ∧ H' p5 = some (.lst ys) ∧ Prs H' ys ps ∧
  σ = [some (.int L), some (.ref p), some (.ref p1), some (.int n), some (.int (L ^ n : Nat)), some (.ref p5), some (.int g), v7, v8, v9] ∧ ps ++ rowsFrom (renL L (stand ks) n) g (ks.drop i) = rowsFrom (renL L (stand ks) n) 0 ks ∧ g + stand (ks.drop i) = stand ks ∧ ys.length = i
theorem read_due {K : PySem.W.Frag} {a : Ad} {N : List Str} {vs : List V} {H : Hp} {Q : VK} {E : XK} (hN : N.length = 10) (h : spRows K vs H Q E) : rd_due K a { nx := fun _ H' => Q .non H', rt := Q } (L2.start N vs) H := by
  obtain ⟨L, p, ks, rfl, hL, hL26, hks, ⟨xs, hq, hp⟩, q⟩ := h
  unfold rd_due L2.start
  rw [hN]
  have hxl := hp.len
  rw [List.length_map] at hxl
  have hst := stand_le ks
  have hL0 : 0 < L := by omega
  refine seq_any fun c hc => ?_
  simp only [tCompSet, tRaise, tIsi, tSeq, tAsg, gName, tOp, tUn, tVar, tC, tTest, tB, tIf, tIfS, tAnd, tOr, tNot, tAndV, tOrV, tNotV, tRet, tRetN, tNext, tDrop, tCB, tCons, tNil, tBM, tBM0, tCall, tLst, tTup, tSl, tPart, tNoPart, tIsN, tNotN, tYes, tBreak, tCont, rI0, rI, rU, rEq, rNe, L2.start, compSt, List.map_cons, List.map_nil, List.length_cons, List.length_nil, List.replicate_succ, List.replicate_zero, List.cons_append, List.nil_append, List.append_nil, List.getElem?_cons_zero, List.getElem?_cons_succ, List.set_cons_zero, List.set_cons_succ, Option.some.injEq, Option.join_some, V.int.injEq, V.str.injEq, V.bl.injEq, V.ref.injEq, txt_inj, exists_eq_left', exists_eq_left, exists_and_left, and_true, true_and, decide_eq_true_eq, reduceCtorEq, decide_false, decide_true, Bool.not_false, Bool.not_true, if_true, if_false, Bool.false_eq_true, Nat.reduceAdd, Nat.reduceSub, Bool.not_eq_true', decide_eq_false_iff_not, not_true_eq_false, not_false_eq_true]
  refine comp_stand (ks := ks) (fun Q h => ⟨_, rfl, h⟩) hq hp (by omega) fun p1 hp1 => hc _ _ ?_
  clear hc c
  have s1 := Same.up (o := HO.lst (((ks.filter fun k => k.2).map fun k => k.1).map strV)) H hp1
  have hP1 : SqL K (upd H p1 (HO.lst (((ks.filter fun k => k.2).map fun k => k.1).map strV))) p1 (((ks.filter fun k => k.2).map fun k => k.1).map strV) := SqL.here
  have hl1 : (((ks.filter fun k => k.2).map fun k => k.1).map strV).length = stand ks := by rw [List.length_map, List.length_map]; rfl
  generalize upd H p1 _ = H1 at s1 hP1 ⊢
  generalize ((ks.filter fun k => k.2).map fun k => k.1).map strV = sl at hP1 hl1
  refine seq_set fun c hc => ?_
  simp only [tCompSet, tRaise, tIsi, tSeq, tAsg, gName, tOp, tUn, tVar, tC, tTest, tB, tIf, tIfS, tAnd, tOr, tNot, tAndV, tOrV, tNotV, tRet, tRetN, tNext, tDrop, tCB, tCons, tNil, tBM, tBM0, tCall, tLst, tTup, tSl, tPart, tNoPart, tIsN, tNotN, tYes, tBreak, tCont, rI0, rI, rU, rEq, rNe, L2.start, compSt, List.map_cons, List.map_nil, List.length_cons, List.length_nil, List.replicate_succ, List.replicate_zero, List.cons_append, List.nil_append, List.append_nil, List.getElem?_cons_zero, List.getElem?_cons_succ, List.set_cons_zero, List.set_cons_succ, Option.some.injEq, Option.join_some, V.int.injEq, V.str.injEq, V.bl.injEq, V.ref.injEq, txt_inj, exists_eq_left', exists_eq_left, exists_and_left, and_true, true_and, decide_eq_true_eq, reduceCtorEq, decide_false, decide_true, Bool.not_false, Bool.not_true, if_true, if_false, Bool.false_eq_true, Nat.reduceAdd, Nat.reduceSub, Bool.not_eq_true', decide_eq_false_iff_not, not_true_eq_false, not_false_eq_true]
  refine hc _ _ ?_
  clear hc c
  refine seq_set fun c hc => ?_
  simp only [tCompSet, tRaise, tIsi, tSeq, tAsg, gName, tOp, tUn, tVar, tC, tTest, tB, tIf, tIfS, tAnd, tOr, tNot, tAndV, tOrV, tNotV, tRet, tRetN, tNext, tDrop, tCB, tCons, tNil, tBM, tBM0, tCall, tLst, tTup, tSl, tPart, tNoPart, tIsN, tNotN, tYes, tBreak, tCont, rI0, rI, rU, rEq, rNe, L2.start, compSt, List.map_cons, List.map_nil, List.length_cons, List.length_nil, List.replicate_succ, List.replicate_zero, List.cons_append, List.nil_append, List.append_nil, List.getElem?_cons_zero, List.getElem?_cons_succ, List.set_cons_zero, List.set_cons_succ, Option.some.injEq, Option.join_some, V.int.injEq, V.str.injEq, V.bl.injEq, V.ref.injEq, txt_inj, exists_eq_left', exists_eq_left, exists_and_left, and_true, true_and, decide_eq_true_eq, reduceCtorEq, decide_false, decide_true, Bool.not_false, Bool.not_true, if_true, if_false, Bool.false_eq_true, Nat.reduceAdd, Nat.reduceSub, Bool.not_eq_true', decide_eq_false_iff_not, not_true_eq_false, not_false_eq_true]
  refine hc _ _ ?_
  clear hc c
  refine seq_any fun c hc => ?_
  suffices main : ∀ n, IsRen L (stand ks) n → c [some (.int L), some (.ref p), some (.ref p1), some (.int n), some (.int (L ^ n : Nat)), none, none, none, none, none] H1 by
    refine while_of (fun x σ H' => H' = H1 ∧ ∃ (n : Nat), σ = [some (.int L), some (.ref p), some (.ref p1), some (.int n), some (.int (L ^ n : Nat)), none, none, none, none, none] ∧ x = stand ks + 1 - n ∧ ∀ i, i < n → L ^ i ≤ stand ks) (stand ks + 1) ⟨rfl, 0, rfl, by omega, fun i hi => by omega⟩ ?_
    rintro x σ H2 ⟨rfl, n, rfl, hx, hpp⟩ R hgo hstop
    simp only [tCompSet, tRaise, tIsi, tSeq, tAsg, gName, tOp, tUn, tVar, tC, tTest, tB, tIf, tIfS, tAnd, tOr, tNot, tAndV, tOrV, tNotV, tRet, tRetN, tNext, tDrop, tCB, tCons, tNil, tBM, tBM0, tCall, tLst, tTup, tSl, tPart, tNoPart, tIsN, tNotN, tYes, tBreak, tCont, rI0, rI, rU, rEq, rNe, L2.start, compSt, List.map_cons, List.map_nil, List.length_cons, List.length_nil, List.replicate_succ, List.replicate_zero, List.cons_append, List.nil_append, List.append_nil, List.getElem?_cons_zero, List.getElem?_cons_succ, List.set_cons_zero, List.set_cons_succ, Option.some.injEq, Option.join_some, V.int.injEq, V.str.injEq, V.bl.injEq, V.ref.injEq, txt_inj, exists_eq_left', exists_eq_left, exists_and_left, and_true, true_and, decide_eq_true_eq, reduceCtorEq, decide_false, decide_true, Bool.not_false, Bool.not_true, if_true, if_false, Bool.false_eq_true, Nat.reduceAdd, Nat.reduceSub, Bool.not_eq_true', decide_eq_false_iff_not, not_true_eq_false, not_false_eq_true]
    refine lenL_go hP1 ⟨_, rfl, ?_⟩
    rw [hl1]
    have hpow := Nat.lt_pow_self (n := n) (show 1 < L by omega)
    by_cases h1 : ((L ^ n : Nat) : Int) - 1 < (stand ks : Int)
    · rw [decide_eq_true h1]
      refine hgo _ ?_
      simp only [tCompSet, tRaise, tIsi, tSeq, tAsg, gName, tOp, tUn, tVar, tC, tTest, tB, tIf, tIfS, tAnd, tOr, tNot, tAndV, tOrV, tNotV, tRet, tRetN, tNext, tDrop, tCB, tCons, tNil, tBM, tBM0, tCall, tLst, tTup, tSl, tPart, tNoPart, tIsN, tNotN, tYes, tBreak, tCont, rI0, rI, rU, rEq, rNe, L2.start, compSt, List.map_cons, List.map_nil, List.length_cons, List.length_nil, List.replicate_succ, List.replicate_zero, List.cons_append, List.nil_append, List.append_nil, List.getElem?_cons_zero, List.getElem?_cons_succ, List.set_cons_zero, List.set_cons_succ, Option.some.injEq, Option.join_some, V.int.injEq, V.str.injEq, V.bl.injEq, V.ref.injEq, txt_inj, exists_eq_left', exists_eq_left, exists_and_left, and_true, true_and, decide_eq_true_eq, reduceCtorEq, decide_false, decide_true, Bool.not_false, Bool.not_true, if_true, if_false, Bool.false_eq_true, Nat.reduceAdd, Nat.reduceSub, Bool.not_eq_true', decide_eq_false_iff_not, not_true_eq_false, not_false_eq_true]
      refine ⟨mulB_r (by omega) (by omega), stand ks + 1 - (n + 1), by omega, n + 1, by rw [Nat.pow_succ, Int.natCast_mul]; rfl, rfl, fun i hi => ?_⟩
      by_cases e : i = n
      · subst e; omega
      · exact hpp i (by omega)
    · rw [decide_eq_false h1]
      refine hstop _ ?_
      exact main n ⟨by omega, hpp⟩
  intro n R
  have hn := R.le hL
  refine hc _ _ ?_
  clear hc c
  refine seq_set fun c hc => ?_
  simp only [tCompSet, tRaise, tIsi, tSeq, tAsg, gName, tOp, tUn, tVar, tC, tTest, tB, tIf, tIfS, tAnd, tOr, tNot, tAndV, tOrV, tNotV, tRet, tRetN, tNext, tDrop, tCB, tCons, tNil, tBM, tBM0, tCall, tLst, tTup, tSl, tPart, tNoPart, tIsN, tNotN, tYes, tBreak, tCont, rI0, rI, rU, rEq, rNe, L2.start, compSt, List.map_cons, List.map_nil, List.length_cons, List.length_nil, List.replicate_succ, List.replicate_zero, List.cons_append, List.nil_append, List.append_nil, List.getElem?_cons_zero, List.getElem?_cons_succ, List.set_cons_zero, List.set_cons_succ, Option.some.injEq, Option.join_some, V.int.injEq, V.str.injEq, V.bl.injEq, V.ref.injEq, txt_inj, exists_eq_left', exists_eq_left, exists_and_left, and_true, true_and, decide_eq_true_eq, reduceCtorEq, decide_false, decide_true, Bool.not_false, Bool.not_true, if_true, if_false, Bool.false_eq_true, Nat.reduceAdd, Nat.reduceSub, Bool.not_eq_true', decide_eq_false_iff_not, not_true_eq_false, not_false_eq_true]
  refine ⟨by decide, fun p5 hp5 => hc _ _ ?_⟩
  clear hc c
  refine seq_set fun c hc => ?_
  simp only [tCompSet, tRaise, tIsi, tSeq, tAsg, gName, tOp, tUn, tVar, tC, tTest, tB, tIf, tIfS, tAnd, tOr, tNot, tAndV, tOrV, tNotV, tRet, tRetN, tNext, tDrop, tCB, tCons, tNil, tBM, tBM0, tCall, tLst, tTup, tSl, tPart, tNoPart, tIsN, tNotN, tYes, tBreak, tCont, rI0, rI, rU, rEq, rNe, L2.start, compSt, List.map_cons, List.map_nil, List.length_cons, List.length_nil, List.replicate_succ, List.replicate_zero, List.cons_append, List.nil_append, List.append_nil, List.getElem?_cons_zero, List.getElem?_cons_succ, List.set_cons_zero, List.set_cons_succ, Option.some.injEq, Option.join_some, V.int.injEq, V.str.injEq, V.bl.injEq, V.ref.injEq, txt_inj, exists_eq_left', exists_eq_left, exists_and_left, and_true, true_and, decide_eq_true_eq, reduceCtorEq, decide_false, decide_true, Bool.not_false, Bool.not_true, if_true, if_false, Bool.false_eq_true, Nat.reduceAdd, Nat.reduceSub, Bool.not_eq_true', decide_eq_false_iff_not, not_true_eq_false, not_false_eq_true]
  refine hc _ _ ?_
  clear hc c
  have s3 : Same H1 (upd H1 p5 (.lst [])) := Same.up _ hp5
  refine seq_any fun c hc => ?_
  refine for_l (a := p) (xs := xs) (fun Q h => ⟨_, rfl, h⟩) (s3.seq (s1.seq hq)) (DueInv L n p p1 p5 H1 ks)
    ⟨0, [], [], _, _, _, s3, upd_same, trivial, rfl, rfl, by rw [List.drop_zero, Nat.zero_add], rfl⟩ (fun i σ H' _ h => by obtain ⟨_, _, _, _, _, _, s, _⟩ := h; exact s.seq (s1.seq hq)) ?_ ?_
  · rintro i x σ H' hx ⟨g, ys, ps, v7, v8, v9, s4, hr, hps, rfl, e1, e2, e3⟩
    obtain ⟨k, t, ek, rfl, ht⟩ := ((hp.same s1).same s4).get hx
    rw [List.getElem?_map] at ek
    obtain ⟨⟨m, b⟩, ek2, rfl⟩ := Option.map_eq_some_iff.mp ek
    rw [drop_get ek2] at e1 e2
    rw [stand_cons] at e2
    have hil : i < xs.length := (List.getElem?_eq_some_iff.mp hx).1
    have hz : ys.length < sizeLine := by rw [sizeLine_eq]; omega
    simp only [gTup, gCons, gNil, kP, tCompSet, tRaise, tIsi, tSeq, tAsg, gName, tOp, tUn, tVar, tC, tTest, tB, tIf, tIfS, tAnd, tOr, tNot, tAndV, tOrV, tNotV, tRet, tRetN, tNext, tDrop, tCB, tCons, tNil, tBM, tBM0, tCall, tLst, tTup, tSl, tPart, tNoPart, tIsN, tNotN, tYes, tBreak, tCont, rI0, rI, rU, rEq, rNe, L2.start, compSt, List.map_cons, List.map_nil, List.length_cons, List.length_nil, List.replicate_succ, List.replicate_zero, List.cons_append, List.nil_append, List.append_nil, List.getElem?_cons_zero, List.getElem?_cons_succ, List.set_cons_zero, List.set_cons_succ, Option.some.injEq, Option.join_some, V.int.injEq, V.str.injEq, V.bl.injEq, V.ref.injEq, txt_inj, exists_eq_left', exists_eq_left, exists_and_left, and_true, true_and, decide_eq_true_eq, reduceCtorEq, decide_false, decide_true, Bool.not_false, Bool.not_true, if_true, if_false, Bool.false_eq_true, Nat.reduceAdd, Nat.reduceSub, Bool.not_eq_true', decide_eq_false_iff_not, not_true_eq_false, not_false_eq_true]
    refine ⟨[strV m, .bl b], SqT.of ht, rfl, strV m, [.bl b], rfl, .bl b, [], rfl, rfl, ?_⟩
    cases b with
    | true =>
      simp only [tCompSet, tRaise, tIsi, tSeq, tAsg, gName, tOp, tUn, tVar, tC, tTest, tB, tIf, tIfS, tAnd, tOr, tNot, tAndV, tOrV, tNotV, tRet, tRetN, tNext, tDrop, tCB, tCons, tNil, tBM, tBM0, tCall, tLst, tTup, tSl, tPart, tNoPart, tIsN, tNotN, tYes, tBreak, tCont, rI0, rI, rU, rEq, rNe, L2.start, compSt, List.map_cons, List.map_nil, List.length_cons, List.length_nil, List.replicate_succ, List.replicate_zero, List.cons_append, List.nil_append, List.append_nil, List.getElem?_cons_zero, List.getElem?_cons_succ, List.set_cons_zero, List.set_cons_succ, Option.some.injEq, Option.join_some, V.int.injEq, V.str.injEq, V.bl.injEq, V.ref.injEq, txt_inj, exists_eq_left', exists_eq_left, exists_and_left, and_true, true_and, decide_eq_true_eq, reduceCtorEq, decide_false, decide_true, Bool.not_false, Bool.not_true, if_true, if_false, Bool.false_eq_true, Nat.reduceAdd, Nat.reduceSub, Bool.not_eq_true', decide_eq_false_iff_not, not_true_eq_false, not_false_eq_true]
      rw [if_pos rfl] at e2
      refine ⟨mulB_l (by omega) (by omega), lenL_go (s4.seq hP1) ?_⟩
      rw [hl1]
      simp only [tCompSet, tRaise, tIsi, tSeq, tAsg, gName, tOp, tUn, tVar, tC, tTest, tB, tIf, tIfS, tAnd, tOr, tNot, tAndV, tOrV, tNotV, tRet, tRetN, tNext, tDrop, tCB, tCons, tNil, tBM, tBM0, tCall, tLst, tTup, tSl, tPart, tNoPart, tIsN, tNotN, tYes, tBreak, tCont, rI0, rI, rU, rEq, rNe, L2.start, compSt, List.map_cons, List.map_nil, List.length_cons, List.length_nil, List.replicate_succ, List.replicate_zero, List.cons_append, List.nil_append, List.append_nil, List.getElem?_cons_zero, List.getElem?_cons_succ, List.set_cons_zero, List.set_cons_succ, Option.some.injEq, Option.join_some, V.int.injEq, V.str.injEq, V.bl.injEq, V.ref.injEq, txt_inj, exists_eq_left', exists_eq_left, exists_and_left, and_true, true_and, decide_eq_true_eq, reduceCtorEq, decide_false, decide_true, Bool.not_false, Bool.not_true, if_true, if_false, Bool.false_eq_true, Nat.reduceAdd, Nat.reduceSub, Bool.not_eq_true', decide_eq_false_iff_not, not_true_eq_false, not_false_eq_true]
      refine ⟨cdiv (by omega) (by omega), L, renW L (stand ks) n g, n, ?_, hL0, hL26, by omega, ?_⟩
      · unfold renW
        rw [Int.natCast_ediv, Int.natCast_mul]
        rfl
      · refine ⟨.inl ⟨rfl, _, SqL.of hr⟩, by decide, fun t2 ht2 => ?_⟩
        have h3 : p5 ≠ t2 := fun z => by subst z; rw [hr] at ht2; cases ht2
        have ew : (renL L (stand ks) n).getD g [] = mk L (renW L (stand ks) n g) n := by rw [List.getD_eq_getElem?_getD, renL_get (by omega)]; rfl
        refine ⟨p5, ys, _, rfl, rfl, by rw [upd_ne h3]; exact hr, hz, ?_⟩
        refine ⟨g + 1, ys ++ [.ref t2], ps ++ [(strV m, strV ((renL L (stand ks) n).getD g []))], _, _, _, (s4.new ht2).set hp5, upd_same, (hps.keep (keep_list ht2 hr)).app ⟨⟨t2, rfl, ?_⟩, trivial⟩, rfl, ?_, by omega, by rw [List.length_append]; simp [e3]⟩
        · rw [upd_ne (Ne.symm h3), upd_same, ew]; rfl
        · rw [List.append_assoc]; exact e1
    | false =>
      simp only [tCompSet, tRaise, tIsi, tSeq, tAsg, gName, tOp, tUn, tVar, tC, tTest, tB, tIf, tIfS, tAnd, tOr, tNot, tAndV, tOrV, tNotV, tRet, tRetN, tNext, tDrop, tCB, tCons, tNil, tBM, tBM0, tCall, tLst, tTup, tSl, tPart, tNoPart, tIsN, tNotN, tYes, tBreak, tCont, rI0, rI, rU, rEq, rNe, L2.start, compSt, List.map_cons, List.map_nil, List.length_cons, List.length_nil, List.replicate_succ, List.replicate_zero, List.cons_append, List.nil_append, List.append_nil, List.getElem?_cons_zero, List.getElem?_cons_succ, List.set_cons_zero, List.set_cons_succ, Option.some.injEq, Option.join_some, V.int.injEq, V.str.injEq, V.bl.injEq, V.ref.injEq, txt_inj, exists_eq_left', exists_eq_left, exists_and_left, and_true, true_and, decide_eq_true_eq, reduceCtorEq, decide_false, decide_true, Bool.not_false, Bool.not_true, if_true, if_false, Bool.false_eq_true, Nat.reduceAdd, Nat.reduceSub, Bool.not_eq_true', decide_eq_false_iff_not, not_true_eq_false, not_false_eq_true]
      rw [if_neg (by decide)] at e2
      refine ⟨.inl ⟨rfl, _, SqL.of hr⟩, by decide, fun t2 ht2 => ?_⟩
      have h3 : p5 ≠ t2 := fun z => by subst z; rw [hr] at ht2; cases ht2
      refine ⟨p5, ys, _, rfl, rfl, by rw [upd_ne h3]; exact hr, hz, ?_⟩
      refine ⟨g, ys ++ [.ref t2], ps ++ [(strV m, .non)], _, _, _, (s4.new ht2).set hp5, upd_same, (hps.keep (keep_list ht2 hr)).app ⟨⟨t2, rfl, ?_⟩, trivial⟩, rfl, ?_, by omega, by rw [List.length_append]; simp [e3]⟩
      · rw [upd_ne (Ne.symm h3), upd_same]
      · rw [List.append_assoc]; exact e1
  · rintro σ H' ⟨g, ys, ps, v7, v8, v9, s4, hr, hps, rfl, e1, e2, e3⟩
    refine hc _ _ ?_
    simp only [tCompSet, tRaise, tIsi, tSeq, tAsg, gName, tOp, tUn, tVar, tC, tTest, tB, tIf, tIfS, tAnd, tOr, tNot, tAndV, tOrV, tNotV, tRet, tRetN, tNext, tDrop, tCB, tCons, tNil, tBM, tBM0, tCall, tLst, tTup, tSl, tPart, tNoPart, tIsN, tNotN, tYes, tBreak, tCont, rI0, rI, rU, rEq, rNe, L2.start, compSt, List.map_cons, List.map_nil, List.length_cons, List.length_nil, List.replicate_succ, List.replicate_zero, List.cons_append, List.nil_append, List.append_nil, List.getElem?_cons_zero, List.getElem?_cons_succ, List.set_cons_zero, List.set_cons_succ, Option.some.injEq, Option.join_some, V.int.injEq, V.str.injEq, V.bl.injEq, V.ref.injEq, txt_inj, exists_eq_left', exists_eq_left, exists_and_left, and_true, true_and, decide_eq_true_eq, reduceCtorEq, decide_false, decide_true, Bool.not_false, Bool.not_true, if_true, if_false, Bool.false_eq_true, Nat.reduceAdd, Nat.reduceSub, Bool.not_eq_true', decide_eq_false_iff_not, not_true_eq_false, not_false_eq_true]
    rw [hxl, List.drop_length] at e1
    have e1 : ps = rowsFrom (renL L (stand ks) n) 0 ks := by simpa [rowsFrom] using e1
    rw [e1] at hps
    exact q _ p5 ys n R (s1.trans s4) (s1.free hp5) hr hps
end K40

set_option Elab.async false
set_option linter.all false
set_option maxRecDepth 100000
set_option maxHeartbeats 4000000
namespace K40
open PySem PySem.Spec PyProof.Rows L2 MM
theorem strOk_ls {L : Nat} (hL : L ≤ 26) {m : List Nat} (h : Ls L m) : PyData.strOk (txt m) = true := by
  unfold PyData.strOk txt
  simp only [Array.all_eq_true_iff_forall_mem, List.mem_toArray, decide_eq_true_eq]
  intro c hc; have := h c hc; omega
def KnownInv (sc p2 p4 : Addr) (L : Nat) (way : Int) (H2 : Hp) (ms : List (List Nat)) : Nat → L2.St → Hp → Prop := fun i σ H' => ∃ (ks : List (List Nat × Bool)) (ys : List V) (v5 v6 : Option V), Same H2 H' ∧ H' p4 = some (.lst ys) ∧ Prs H' ys (ks.map kP) ∧
  σ = [some (.ref sc), some (.int L), some (.ref p2), some (.int way), some (.ref p4), v5, v6, none, none, none, none] ∧ ks.length = i ∧ ∀ k ∈ ks, k.1 ∈ ms
theorem rows_ok {L : Nat} (hL26 : L ≤ 26) {fr : List (List Nat)} (hf : ∀ x ∈ fr, Ls L x) : ∀ {ks : List (List Nat × Bool)} {g : Nat}, (∀ k ∈ ks, Ls L k.1) → ∀ p ∈ rowsFrom fr g ks, OkV p.1 ∧ OkV p.2
  | [], _, _ => fun p h => (nomatch h)
  | (m, true) :: ks, g, hk => fun p h => by
    rcases List.mem_cons.mp h with e | h
    · subst e
      refine ⟨.str (strOk_ls hL26 (hk _ List.mem_cons_self)), .str (strOk_ls hL26 ?_)⟩
      rw [List.getD_eq_getElem?_getD]
      cases e : fr[g]? with
      | none => exact Ls.nil L
      | some x => exact hf x (List.mem_of_getElem? e)
    · exact rows_ok hL26 hf (fun k h => hk k (List.mem_cons_of_mem _ h)) p h
  | (m, false) :: ks, g, hk => fun p h => by
    rcases List.mem_cons.mp h with e | h
    · subst e
      exact ⟨.str (strOk_ls hL26 (hk _ List.mem_cons_self)), .non⟩
    · exact rows_ok hL26 hf (fun k h => hk k (List.mem_cons_of_mem _ h)) p h
theorem rows_len {fr : List (List Nat)} : ∀ {ks : List (List Nat × Bool)} {g : Nat}, (rowsFrom fr g ks).length = ks.length
  | [], _ => rfl
  | (m, true) :: ks, g => by show (rowsFrom fr (g + 1) ks).length + 1 = _; rw [rows_len]; rfl
  | (m, false) :: ks, g => by show (rowsFrom fr g ks).length + 1 = _; rw [rows_len]; rfl
/-- the two handings -/
def HandInv (sc p2 p4 p7 q0 q1 q2 : Addr) (L : Nat) (way : Int) (v5 v6 : Option V) (H3 : Hp) (xs : List V) : Nat → L2.St → Hp → Prop := fun i σ H' => ∃ (v8 v9 v10 : Option V), Same H3 H' ∧ H' q0 = some (.lst [.ref q1, .ref q2]) ∧ (i = 0 → H' q1 = some (.lst xs)) ∧ (i ≤ 1 → H' q2 = some (.lst xs)) ∧
  σ = [some (.ref sc), some (.int L), some (.ref p2), some (.int way), some (.ref p4), v5, v6, some (.ref p7), v8, v9, v10]
theorem read_law {K : PySem.W.Frag} {a : Ad} {N : List Str} {vs : List V} {H : Hp} {Q : VK} {E : XK} (hN : N.length = 11) (h : spLaw K vs H Q E) : rd_law K a { nx := fun _ H' => Q .non H', rt := Q } (L2.start N vs) H := by
  obtain ⟨sc, ns, rfl, hS, hl, q⟩ := h
  unfold rd_law L2.start
  rw [hN]
  refine seq_set fun c hc => ?_
  simp only [tCompSet, tRaise, tIsi, tSeq, tAsg, gName, tOp, tUn, tVar, tC, tTest, tB, tIf, tIfS, tAnd, tOr, tNot, tAndV, tOrV, tNotV, tRet, tRetN, tNext, tDrop, tCB, tCons, tNil, tBM, tBM0, tCall, tLst, tTup, tSl, tPart, tNoPart, tIsN, tNotN, tYes, tBreak, tCont, rI0, rI, rU, rEq, rNe, L2.start, compSt, List.map_cons, List.map_nil, List.length_cons, List.length_nil, List.replicate_succ, List.replicate_zero, List.cons_append, List.nil_append, List.append_nil, List.getElem?_cons_zero, List.getElem?_cons_succ, List.set_cons_zero, List.set_cons_succ, Option.some.injEq, Option.join_some, V.int.injEq, V.str.injEq, V.bl.injEq, V.ref.injEq, txt_inj, exists_eq_left', exists_eq_left, exists_and_left, and_true, true_and, decide_eq_true_eq, reduceCtorEq, decide_false, decide_true, Bool.not_false, Bool.not_true, if_true, if_false, Bool.false_eq_true, Nat.reduceAdd, Nat.reduceSub, Bool.not_eq_true', decide_eq_false_iff_not, not_true_eq_false, not_false_eq_true]
  refine ⟨sc, ns, rfl, hS, hl, fun H1 L s1 hL hL26 => hc _ _ ?_⟩
  clear hc c
  refine seq_set fun c hc => ?_
  simp only [tCompSet, tRaise, tIsi, tSeq, tAsg, gName, tOp, tUn, tVar, tC, tTest, tB, tIf, tIfS, tAnd, tOr, tNot, tAndV, tOrV, tNotV, tRet, tRetN, tNext, tDrop, tCB, tCons, tNil, tBM, tBM0, tCall, tLst, tTup, tSl, tPart, tNoPart, tIsN, tNotN, tYes, tBreak, tCont, rI0, rI, rU, rEq, rNe, L2.start, compSt, List.map_cons, List.map_nil, List.length_cons, List.length_nil, List.replicate_succ, List.replicate_zero, List.cons_append, List.nil_append, List.append_nil, List.getElem?_cons_zero, List.getElem?_cons_succ, List.set_cons_zero, List.set_cons_succ, Option.some.injEq, Option.join_some, V.int.injEq, V.str.injEq, V.bl.injEq, V.ref.injEq, txt_inj, exists_eq_left', exists_eq_left, exists_and_left, and_true, true_and, decide_eq_true_eq, reduceCtorEq, decide_false, decide_true, Bool.not_false, Bool.not_true, if_true, if_false, Bool.false_eq_true, Nat.reduceAdd, Nat.reduceSub, Bool.not_eq_true', decide_eq_false_iff_not, not_true_eq_false, not_false_eq_true]
  refine ⟨sc, ns, _, _, rfl, s1.seq hS, hl, by decide, by decide, by decide, fun r hr0 hr1 => ?_⟩
  obtain ⟨n, rfl⟩ := Int.eq_ofNat_of_zero_le hr0
  refine ⟨sc, ns, _, L, n, rfl, s1.seq hS, hl, by decide, by decide, hL, hL26, by omega, fun H2 p2 ms s2 hp2 hms hml _ => hc _ _ ?_⟩
  clear hc c
  have s3 := (s1.trans s2).new (o := HO.lst (ms.map strV)) hp2
  have hM : SqL K (upd H2 p2 (HO.lst (ms.map strV))) p2 (ms.map strV) := SqL.here
  generalize upd H2 p2 _ = H3 at s3 hM ⊢
  refine seq_set fun c hc => ?_
  simp only [tCompSet, tRaise, tIsi, tSeq, tAsg, gName, tOp, tUn, tVar, tC, tTest, tB, tIf, tIfS, tAnd, tOr, tNot, tAndV, tOrV, tNotV, tRet, tRetN, tNext, tDrop, tCB, tCons, tNil, tBM, tBM0, tCall, tLst, tTup, tSl, tPart, tNoPart, tIsN, tNotN, tYes, tBreak, tCont, rI0, rI, rU, rEq, rNe, L2.start, compSt, List.map_cons, List.map_nil, List.length_cons, List.length_nil, List.replicate_succ, List.replicate_zero, List.cons_append, List.nil_append, List.append_nil, List.getElem?_cons_zero, List.getElem?_cons_succ, List.set_cons_zero, List.set_cons_succ, Option.some.injEq, Option.join_some, V.int.injEq, V.str.injEq, V.bl.injEq, V.ref.injEq, txt_inj, exists_eq_left', exists_eq_left, exists_and_left, and_true, true_and, decide_eq_true_eq, reduceCtorEq, decide_false, decide_true, Bool.not_false, Bool.not_true, if_true, if_false, Bool.false_eq_true, Nat.reduceAdd, Nat.reduceSub, Bool.not_eq_true', decide_eq_false_iff_not, not_true_eq_false, not_false_eq_true]
  refine ⟨sc, ns, _, _, rfl, s3.seq hS, hl, by decide, by decide, by decide, fun way hw0 hw1 => hc _ _ ?_⟩
  clear hc c
  refine seq_set fun c hc => ?_
  simp only [tCompSet, tRaise, tIsi, tSeq, tAsg, gName, tOp, tUn, tVar, tC, tTest, tB, tIf, tIfS, tAnd, tOr, tNot, tAndV, tOrV, tNotV, tRet, tRetN, tNext, tDrop, tCB, tCons, tNil, tBM, tBM0, tCall, tLst, tTup, tSl, tPart, tNoPart, tIsN, tNotN, tYes, tBreak, tCont, rI0, rI, rU, rEq, rNe, L2.start, compSt, List.map_cons, List.map_nil, List.length_cons, List.length_nil, List.replicate_succ, List.replicate_zero, List.cons_append, List.nil_append, List.append_nil, List.getElem?_cons_zero, List.getElem?_cons_succ, List.set_cons_zero, List.set_cons_succ, Option.some.injEq, Option.join_some, V.int.injEq, V.str.injEq, V.bl.injEq, V.ref.injEq, txt_inj, exists_eq_left', exists_eq_left, exists_and_left, and_true, true_and, decide_eq_true_eq, reduceCtorEq, decide_false, decide_true, Bool.not_false, Bool.not_true, if_true, if_false, Bool.false_eq_true, Nat.reduceAdd, Nat.reduceSub, Bool.not_eq_true', decide_eq_false_iff_not, not_true_eq_false, not_false_eq_true]
  refine ⟨by decide, fun p4 hp4 => hc _ _ ?_⟩
  clear hc c
  refine seq_any fun c hc => ?_
  suffices main : ∀ (ks : List (List Nat × Bool)) (xs : List V) (v5 v6 : Option V) (H4 : Hp), Same H3 H4 → H4 p4 = some (.lst xs) → Prs H4 xs (ks.map kP) → ks.length ≤ 20 → (∀ k ∈ ks, k.1 ∈ ms) → c [some (.ref sc), some (.int L), some (.ref p2), some (.int way), some (.ref p4), v5, v6, none, none, none, none] H4 by
    refine for_r1 (j := ms.length) (fun Q h => by
      simp only [tCompSet, tRaise, tIsi, tSeq, tAsg, gName, tOp, tUn, tVar, tC, tTest, tB, tIf, tIfS, tAnd, tOr, tNot, tAndV, tOrV, tNotV, tRet, tRetN, tNext, tDrop, tCB, tCons, tNil, tBM, tBM0, tCall, tLst, tTup, tSl, tPart, tNoPart, tIsN, tNotN, tYes, tBreak, tCont, rI0, rI, rU, rEq, rNe, L2.start, compSt, List.map_cons, List.map_nil, List.length_cons, List.length_nil, List.replicate_succ, List.replicate_zero, List.cons_append, List.nil_append, List.append_nil, List.getElem?_cons_zero, List.getElem?_cons_succ, List.set_cons_zero, List.set_cons_succ, Option.some.injEq, Option.join_some, V.int.injEq, V.str.injEq, V.bl.injEq, V.ref.injEq, txt_inj, exists_eq_left', exists_eq_left, exists_and_left, and_true, true_and, decide_eq_true_eq, reduceCtorEq, decide_false, decide_true, Bool.not_false, Bool.not_true, if_true, if_false, Bool.false_eq_true, Nat.reduceAdd, Nat.reduceSub, Bool.not_eq_true', decide_eq_false_iff_not, not_true_eq_false, not_false_eq_true]
      exact lenL_go (hM.up hp4) (by rw [List.length_map]; exact h)) (by omega) (by omega) (KnownInv sc p2 p4 L way H3 ms) ⟨[], [], _, _, Same.up _ hp4, upd_same, trivial, rfl, rfl, fun k h => (nomatch h)⟩ ?_ ?_
    · rintro i σ H4 hi ⟨ks, ys, v5, v6, s4, hr, hps, rfl, hkl, hkm⟩
      have hS4 := s4.seq (s3.seq hS)
      refine seq_set fun c hc => ?_
      simp only [tCompSet, tRaise, tIsi, tSeq, tAsg, gName, tOp, tUn, tVar, tC, tTest, tB, tIf, tIfS, tAnd, tOr, tNot, tAndV, tOrV, tNotV, tRet, tRetN, tNext, tDrop, tCB, tCons, tNil, tBM, tBM0, tCall, tLst, tTup, tSl, tPart, tNoPart, tIsN, tNotN, tYes, tBreak, tCont, rI0, rI, rU, rEq, rNe, L2.start, compSt, List.map_cons, List.map_nil, List.length_cons, List.length_nil, List.replicate_succ, List.replicate_zero, List.cons_append, List.nil_append, List.append_nil, List.getElem?_cons_zero, List.getElem?_cons_succ, List.set_cons_zero, List.set_cons_succ, Option.some.injEq, Option.join_some, V.int.injEq, V.str.injEq, V.bl.injEq, V.ref.injEq, txt_inj, exists_eq_left', exists_eq_left, exists_and_left, and_true, true_and, decide_eq_true_eq, reduceCtorEq, decide_false, decide_true, Bool.not_false, Bool.not_true, if_true, if_false, Bool.false_eq_true, Nat.reduceAdd, Nat.reduceSub, Bool.not_eq_true', decide_eq_false_iff_not, not_true_eq_false, not_false_eq_true]
      refine ⟨sc, ns, _, _, rfl, hS4, hl, by omega, by omega, by decide, fun r hr0 hr1 => ⟨_, rfl, hc _ _ ?_⟩⟩
      clear hc c
      generalize decide ((0 : Int) < r) = b0
      refine seq_any fun c hc => ?_
      suffices m2 : ∀ b : Bool, c [some (.ref sc), some (.int L), some (.ref p2), some (.int way), some (.ref p4), some (.int i), some (.bl b), none, none, none, none] H4 by
        simp only [tCompSet, tRaise, tIsi, tSeq, tAsg, gName, tOp, tUn, tVar, tC, tTest, tB, tIf, tIfS, tAnd, tOr, tNot, tAndV, tOrV, tNotV, tRet, tRetN, tNext, tDrop, tCB, tCons, tNil, tBM, tBM0, tCall, tLst, tTup, tSl, tPart, tNoPart, tIsN, tNotN, tYes, tBreak, tCont, rI0, rI, rU, rEq, rNe, L2.start, compSt, List.map_cons, List.map_nil, List.length_cons, List.length_nil, List.replicate_succ, List.replicate_zero, List.cons_append, List.nil_append, List.append_nil, List.getElem?_cons_zero, List.getElem?_cons_succ, List.set_cons_zero, List.set_cons_succ, Option.some.injEq, Option.join_some, V.int.injEq, V.str.injEq, V.bl.injEq, V.ref.injEq, txt_inj, exists_eq_left', exists_eq_left, exists_and_left, and_true, true_and, decide_eq_true_eq, reduceCtorEq, decide_false, decide_true, Bool.not_false, Bool.not_true, if_true, if_false, Bool.false_eq_true, Nat.reduceAdd, Nat.reduceSub, Bool.not_eq_true', decide_eq_false_iff_not, not_true_eq_false, not_false_eq_true]
        by_cases e : way < 2
        · rw [if_pos e]
          exact ⟨rfl, m2 _⟩
        · rw [if_neg e]
          exact m2 _
      intro b
      refine hc _ _ ?_
      clear hc c
      obtain ⟨m, hmi⟩ := some_at (l := ms) (i := i) (by omega)
      simp only [tCompSet, tRaise, tIsi, tSeq, tAsg, gName, tOp, tUn, tVar, tC, tTest, tB, tIf, tIfS, tAnd, tOr, tNot, tAndV, tOrV, tNotV, tRet, tRetN, tNext, tDrop, tCB, tCons, tNil, tBM, tBM0, tCall, tLst, tTup, tSl, tPart, tNoPart, tIsN, tNotN, tYes, tBreak, tCont, rI0, rI, rU, rEq, rNe, L2.start, compSt, List.map_cons, List.map_nil, List.length_cons, List.length_nil, List.replicate_succ, List.replicate_zero, List.cons_append, List.nil_append, List.append_nil, List.getElem?_cons_zero, List.getElem?_cons_succ, List.set_cons_zero, List.set_cons_succ, Option.some.injEq, Option.join_some, V.int.injEq, V.str.injEq, V.bl.injEq, V.ref.injEq, txt_inj, exists_eq_left', exists_eq_left, exists_and_left, and_true, true_and, decide_eq_true_eq, reduceCtorEq, decide_false, decide_true, Bool.not_false, Bool.not_true, if_true, if_false, Bool.false_eq_true, Nat.reduceAdd, Nat.reduceSub, Bool.not_eq_true', decide_eq_false_iff_not, not_true_eq_false, not_false_eq_true]
      refine ⟨.inl ⟨rfl, _, SqL.of hr⟩, ?_⟩
      refine ixL_go (v := strV m) (s4.seq hM) (by omega) (by rw [Int.toNat_natCast, List.getElem?_map, hmi]; rfl) ?_
      refine ⟨by decide, fun t2 ht2 => ?_⟩
      have h3 : p4 ≠ t2 := fun z => by subst z; rw [hr] at ht2; cases ht2
      refine ⟨p4, ys, _, rfl, rfl, by rw [upd_ne h3]; exact hr, by rw [hps.len, List.length_map, sizeLine_eq]; omega, ?_⟩
      refine ⟨ks ++ [(m, b)], ys ++ [.ref t2], _, _, (s4.new ht2).set hp4, upd_same, ?_, rfl, by rw [List.length_append]; simp [hkl], fun k h => ?_⟩
      · rw [List.map_append]
        exact (hps.keep (keep_list ht2 hr)).app ⟨⟨t2, rfl, by rw [upd_ne (Ne.symm h3), upd_same]; rfl⟩, trivial⟩
      · rcases List.mem_append.mp h with h | h
        · exact hkm k h
        · rw [List.mem_singleton.mp h]; exact List.mem_of_getElem? hmi
    · rintro σ H4 ⟨ks, ys, v5, v6, s4, hr, hps, rfl, hkl, hkm⟩
      exact main ks ys v5 v6 H4 s4 hr hps (by omega) hkm
  intro ks xs v5 v6 H4 s4 hr hps hkl hkm
  refine hc _ _ ?_
  clear hc c
  have hkls : ∀ k ∈ ks, Ls L k.1 := fun k h => (hms k.1 (hkm k h)).1.ls
  have okk : ∀ p ∈ ks.map kP, OkV p.1 ∧ OkV p.2 := fun p h => by
    obtain ⟨k, hk, rfl⟩ := List.mem_map.mp h
    exact ⟨.str (strOk_ls hL26 (hkls k hk)), .bl _⟩
  refine seq_set fun c hc => ?_
  simp only [tCompSet, tRaise, tIsi, tSeq, tAsg, gName, tOp, tUn, tVar, tC, tTest, tB, tIf, tIfS, tAnd, tOr, tNot, tAndV, tOrV, tNotV, tRet, tRetN, tNext, tDrop, tCB, tCons, tNil, tBM, tBM0, tCall, tLst, tTup, tSl, tPart, tNoPart, tIsN, tNotN, tYes, tBreak, tCont, rI0, rI, rU, rEq, rNe, L2.start, compSt, List.map_cons, List.map_nil, List.length_cons, List.length_nil, List.replicate_succ, List.replicate_zero, List.cons_append, List.nil_append, List.append_nil, List.getElem?_cons_zero, List.getElem?_cons_succ, List.set_cons_zero, List.set_cons_succ, Option.some.injEq, Option.join_some, V.int.injEq, V.str.injEq, V.bl.injEq, V.ref.injEq, txt_inj, exists_eq_left', exists_eq_left, exists_and_left, and_true, true_and, decide_eq_true_eq, reduceCtorEq, decide_false, decide_true, Bool.not_false, Bool.not_true, if_true, if_false, Bool.false_eq_true, Nat.reduceAdd, Nat.reduceSub, Bool.not_eq_true', decide_eq_false_iff_not, not_true_eq_false, not_false_eq_true]
  refine ⟨L, p4, ks, rfl, hL, hL26, by omega, ⟨xs, SqL.of hr, hps⟩, fun H5 p7 ds n2 R s5 hp7 hd hds => hc _ _ ?_⟩
  clear hc c
  have okr : ∀ p ∈ rowsFrom (renL L (stand ks) n2) 0 ks, OkV p.1 ∧ OkV p.2 := rows_ok hL26 (fun x hx => (renL_mem (by omega) R x hx).1.ls) hkls
  have hr5 := s5 _ _ hr
  have hps5 := hps.same s5
  refine seq_any fun c hc => ?_
  refine for_by fun R0 hR0 => ?_
  simp only [iList, tCompSet, tRaise, tIsi, tSeq, tAsg, gName, tOp, tUn, tVar, tC, tTest, tB, tIf, tIfS, tAnd, tOr, tNot, tAndV, tOrV, tNotV, tRet, tRetN, tNext, tDrop, tCB, tCons, tNil, tBM, tBM0, tCall, tLst, tTup, tSl, tPart, tNoPart, tIsN, tNotN, tYes, tBreak, tCont, rI0, rI, rU, rEq, rNe, L2.start, compSt, List.map_cons, List.map_nil, List.length_cons, List.length_nil, List.replicate_succ, List.replicate_zero, List.cons_append, List.nil_append, List.append_nil, List.getElem?_cons_zero, List.getElem?_cons_succ, List.set_cons_zero, List.set_cons_succ, Option.some.injEq, Option.join_some, V.int.injEq, V.str.injEq, V.bl.injEq, V.ref.injEq, txt_inj, exists_eq_left', exists_eq_left, exists_and_left, and_true, true_and, decide_eq_true_eq, reduceCtorEq, decide_false, decide_true, Bool.not_false, Bool.not_true, if_true, if_false, Bool.false_eq_true, Nat.reduceAdd, Nat.reduceSub, Bool.not_eq_true', decide_eq_false_iff_not, not_true_eq_false, not_false_eq_true]
  refine ⟨p4, xs, rfl, .inl (SqL.of hr5), fun q1 hq1 => ?_⟩
  have h41 : p4 ≠ q1 := fun z => by subst z; rw [hr5] at hq1; cases hq1
  refine ⟨p4, xs, rfl, .inl (SqL.of (by rw [upd_ne h41]; exact hr5)), fun q2 hq2 => ?_⟩
  have h12 : q1 ≠ q2 := fun z => by subst z; rw [upd_same] at hq2; cases hq2
  refine ⟨by decide, fun q0 hq0 => ⟨⟨_, SqL.here⟩, ?_⟩⟩
  have h10 : q1 ≠ q0 := fun z => by subst z; rw [upd_ne h12, upd_same] at hq0; cases hq0
  have h20 : q2 ≠ q0 := fun z => by subst z; rw [upd_same] at hq0; cases hq0
  rw [hR0]
  have g2 : H5 q2 = none := by rw [upd_ne (Ne.symm h12)] at hq2; exact hq2
  have g0 : H5 q0 = none := by rw [upd_ne (Ne.symm h20), upd_ne (Ne.symm h10)] at hq0; exact hq0
  have s6 : Same H5 (upd (upd (upd H5 q1 (.lst xs)) q2 (.lst xs)) q0 (.lst [.ref q1, .ref q2])) := ((Same.up H5 hq1).new hq2).new hq0
  refine for_list (K := K) (xs := [V.ref q1, V.ref q2]) (HandInv sc p2 p4 p7 q0 q1 q2 L way v5 v6 H5 xs)
    ⟨_, _, _, s6, upd_same, fun _ => by rw [upd_ne h10, upd_ne h12, upd_same], fun _ => by rw [upd_ne h20, upd_same], rfl⟩ (fun i σ H' _ h => by obtain ⟨_, _, _, _, h0, _⟩ := h; exact SqL.of h0) ?_ ?_
  · rintro i x σ H6 hx ⟨v8, v9, v10, s7, hh0, hh1, hh2, rfl⟩
    obtain ⟨qi, rfl, hqi, gi, hi0, hnext⟩ : ∃ qi, x = .ref qi ∧ H6 qi = some (.lst xs) ∧ H5 qi = none ∧ qi ≠ q0 ∧ (i + 1 ≤ 1 → q2 ≠ qi) := by
      match i, hx with
      | 0, hx => cases Option.some.inj hx; exact ⟨q1, rfl, hh1 rfl, hq1, h10, fun _ => Ne.symm h12⟩
      | 1, hx => cases Option.some.inj hx; exact ⟨q2, rfl, hh2 (Nat.le_refl _), g2, h20, fun z => by omega⟩
    have hr6 := s7 _ _ hr5
    have hps6 := hps5.same s7
    refine seq_set fun c hc => ?_
    simp only [tCompSet, tRaise, tIsi, tSeq, tAsg, gName, tOp, tUn, tVar, tC, tTest, tB, tIf, tIfS, tAnd, tOr, tNot, tAndV, tOrV, tNotV, tRet, tRetN, tNext, tDrop, tCB, tCons, tNil, tBM, tBM0, tCall, tLst, tTup, tSl, tPart, tNoPart, tIsN, tNotN, tYes, tBreak, tCont, rI0, rI, rU, rEq, rNe, L2.start, compSt, List.map_cons, List.map_nil, List.length_cons, List.length_nil, List.replicate_succ, List.replicate_zero, List.cons_append, List.nil_append, List.append_nil, List.getElem?_cons_zero, List.getElem?_cons_succ, List.set_cons_zero, List.set_cons_succ, Option.some.injEq, Option.join_some, V.int.injEq, V.str.injEq, V.bl.injEq, V.ref.injEq, txt_inj, exists_eq_left', exists_eq_left, exists_and_left, and_true, true_and, decide_eq_true_eq, reduceCtorEq, decide_false, decide_true, Bool.not_false, Bool.not_true, if_true, if_false, Bool.false_eq_true, Nat.reduceAdd, Nat.reduceSub, Bool.not_eq_true', decide_eq_false_iff_not, not_true_eq_false, not_false_eq_true]
    refine ⟨L, qi, ks, rfl, hL, hL26, by omega, ⟨xs, SqL.of hqi, hps6⟩, fun H7 p9 fs n3 R3 s8 hp9 hf hfs => hc _ _ ?_⟩
    clear hc c
    have e := R3.one R
    subst e
    have s78 := s7.trans s8
    have hqi7 := s8 _ _ hqi
    refine seq_any fun c hc => ?_
    simp only [tCompSet, tRaise, tIsi, tSeq, tAsg, gName, tOp, tUn, tVar, tC, tTest, tB, tIf, tIfS, tAnd, tOr, tNot, tAndV, tOrV, tNotV, tRet, tRetN, tNext, tDrop, tCB, tCons, tNil, tBM, tBM0, tCall, tLst, tTup, tSl, tPart, tNoPart, tIsN, tNotN, tYes, tBreak, tCont, rI0, rI, rU, rEq, rNe, L2.start, compSt, List.map_cons, List.map_nil, List.length_cons, List.length_nil, List.replicate_succ, List.replicate_zero, List.cons_append, List.nil_append, List.append_nil, List.getElem?_cons_zero, List.getElem?_cons_succ, List.set_cons_zero, List.set_cons_succ, Option.some.injEq, Option.join_some, V.int.injEq, V.str.injEq, V.bl.injEq, V.ref.injEq, txt_inj, exists_eq_left', exists_eq_left, exists_and_left, and_true, true_and, decide_eq_true_eq, reduceCtorEq, decide_false, decide_true, Bool.not_false, Bool.not_true, if_true, if_false, Bool.false_eq_true, Nat.reduceAdd, Nat.reduceSub, Bool.not_eq_true', decide_eq_false_iff_not, not_true_eq_false, not_false_eq_true]
    refine eq_pairs (SqL.of hqi7) (SqL.of (s78 _ _ hr5)) (hps6.same s8) (hps6.same s8) okk ⟨_, rfl, ?_⟩
    simp only [tCompSet, tRaise, tIsi, tSeq, tAsg, gName, tOp, tUn, tVar, tC, tTest, tB, tIf, tIfS, tAnd, tOr, tNot, tAndV, tOrV, tNotV, tRet, tRetN, tNext, tDrop, tCB, tCons, tNil, tBM, tBM0, tCall, tLst, tTup, tSl, tPart, tNoPart, tIsN, tNotN, tYes, tBreak, tCont, rI0, rI, rU, rEq, rNe, L2.start, compSt, List.map_cons, List.map_nil, List.length_cons, List.length_nil, List.replicate_succ, List.replicate_zero, List.cons_append, List.nil_append, List.append_nil, List.getElem?_cons_zero, List.getElem?_cons_succ, List.set_cons_zero, List.set_cons_succ, Option.some.injEq, Option.join_some, V.int.injEq, V.str.injEq, V.bl.injEq, V.ref.injEq, txt_inj, exists_eq_left', exists_eq_left, exists_and_left, and_true, true_and, decide_eq_true_eq, reduceCtorEq, decide_false, decide_true, Bool.not_false, Bool.not_true, if_true, if_false, Bool.false_eq_true, Nat.reduceAdd, Nat.reduceSub, Bool.not_eq_true', decide_eq_false_iff_not, not_true_eq_false, not_false_eq_true]
    refine isiL_go hf ⟨_, rfl, ?_⟩
    simp only [tCompSet, tRaise, tIsi, tSeq, tAsg, gName, tOp, tUn, tVar, tC, tTest, tB, tIf, tIfS, tAnd, tOr, tNot, tAndV, tOrV, tNotV, tRet, tRetN, tNext, tDrop, tCB, tCons, tNil, tBM, tBM0, tCall, tLst, tTup, tSl, tPart, tNoPart, tIsN, tNotN, tYes, tBreak, tCont, rI0, rI, rU, rEq, rNe, L2.start, compSt, List.map_cons, List.map_nil, List.length_cons, List.length_nil, List.replicate_succ, List.replicate_zero, List.cons_append, List.nil_append, List.append_nil, List.getElem?_cons_zero, List.getElem?_cons_succ, List.set_cons_zero, List.set_cons_succ, Option.some.injEq, Option.join_some, V.int.injEq, V.str.injEq, V.bl.injEq, V.ref.injEq, txt_inj, exists_eq_left', exists_eq_left, exists_and_left, and_true, true_and, decide_eq_true_eq, reduceCtorEq, decide_false, decide_true, Bool.not_false, Bool.not_true, if_true, if_false, Bool.false_eq_true, Nat.reduceAdd, Nat.reduceSub, Bool.not_eq_true', decide_eq_false_iff_not, not_true_eq_false, not_false_eq_true]
    refine eq_pairs (SqL.of hf) (SqL.of (s78 _ _ hd)) hfs (hds.same s78) okr ⟨_, rfl, ?_⟩
    simp only [tCompSet, tRaise, tIsi, tSeq, tAsg, gName, tOp, tUn, tVar, tC, tTest, tB, tIf, tIfS, tAnd, tOr, tNot, tAndV, tOrV, tNotV, tRet, tRetN, tNext, tDrop, tCB, tCons, tNil, tBM, tBM0, tCall, tLst, tTup, tSl, tPart, tNoPart, tIsN, tNotN, tYes, tBreak, tCont, rI0, rI, rU, rEq, rNe, L2.start, compSt, List.map_cons, List.map_nil, List.length_cons, List.length_nil, List.replicate_succ, List.replicate_zero, List.cons_append, List.nil_append, List.append_nil, List.getElem?_cons_zero, List.getElem?_cons_succ, List.set_cons_zero, List.set_cons_succ, Option.some.injEq, Option.join_some, V.int.injEq, V.str.injEq, V.bl.injEq, V.ref.injEq, txt_inj, exists_eq_left', exists_eq_left, exists_and_left, and_true, true_and, decide_eq_true_eq, reduceCtorEq, decide_false, decide_true, Bool.not_false, Bool.not_true, if_true, if_false, Bool.false_eq_true, Nat.reduceAdd, Nat.reduceSub, Bool.not_eq_true', decide_eq_false_iff_not, not_true_eq_false, not_false_eq_true]
    refine hc _ _ ?_
    clear hc c
    refine seq_any fun c hc => ?_
    refine for_l (a := p9) (xs := fs) (fun Q h => ⟨_, rfl, h⟩) (SqL.of hf) (fun j σ H' => H' = H7 ∧ ∃ v10, σ = [some (.ref sc), some (.int L), some (.ref p2), some (.int way), some (.ref p4), v5, v6, some (.ref p7), some (.ref qi), some (.ref p9), v10]) ⟨rfl, _, rfl⟩ (fun j σ H' _ h => by rw [h.1]; exact SqL.of hf) ?_ ?_
    · rintro j x σ H8 hx ⟨rfl, v10, rfl⟩
      obtain ⟨pr, t, _, rfl, ht⟩ := hfs.get hx
      simp only [tCompSet, tRaise, tIsi, tSeq, tAsg, gName, tOp, tUn, tVar, tC, tTest, tB, tIf, tIfS, tAnd, tOr, tNot, tAndV, tOrV, tNotV, tRet, tRetN, tNext, tDrop, tCB, tCons, tNil, tBM, tBM0, tCall, tLst, tTup, tSl, tPart, tNoPart, tIsN, tNotN, tYes, tBreak, tCont, rI0, rI, rU, rEq, rNe, L2.start, compSt, List.map_cons, List.map_nil, List.length_cons, List.length_nil, List.replicate_succ, List.replicate_zero, List.cons_append, List.nil_append, List.append_nil, List.getElem?_cons_zero, List.getElem?_cons_succ, List.set_cons_zero, List.set_cons_succ, Option.some.injEq, Option.join_some, V.int.injEq, V.str.injEq, V.bl.injEq, V.ref.injEq, txt_inj, exists_eq_left', exists_eq_left, exists_and_left, and_true, true_and, decide_eq_true_eq, reduceCtorEq, decide_false, decide_true, Bool.not_false, Bool.not_true, if_true, if_false, Bool.false_eq_true, Nat.reduceAdd, Nat.reduceSub, Bool.not_eq_true', decide_eq_false_iff_not, not_true_eq_false, not_false_eq_true]
      refine ⟨_, _, .tup ht, isTy_tuple_tuple, ⟨_, rfl, ?_⟩⟩
      simp only [tCompSet, tRaise, tIsi, tSeq, tAsg, gName, tOp, tUn, tVar, tC, tTest, tB, tIf, tIfS, tAnd, tOr, tNot, tAndV, tOrV, tNotV, tRet, tRetN, tNext, tDrop, tCB, tCons, tNil, tBM, tBM0, tCall, tLst, tTup, tSl, tPart, tNoPart, tIsN, tNotN, tYes, tBreak, tCont, rI0, rI, rU, rEq, rNe, L2.start, compSt, List.map_cons, List.map_nil, List.length_cons, List.length_nil, List.replicate_succ, List.replicate_zero, List.cons_append, List.nil_append, List.append_nil, List.getElem?_cons_zero, List.getElem?_cons_succ, List.set_cons_zero, List.set_cons_succ, Option.some.injEq, Option.join_some, V.int.injEq, V.str.injEq, V.bl.injEq, V.ref.injEq, txt_inj, exists_eq_left', exists_eq_left, exists_and_left, and_true, true_and, decide_eq_true_eq, reduceCtorEq, decide_false, decide_true, Bool.not_false, Bool.not_true, if_true, if_false, Bool.false_eq_true, Nat.reduceAdd, Nat.reduceSub, Bool.not_eq_true', decide_eq_false_iff_not, not_true_eq_false, not_false_eq_true]
      refine ⟨t, _, rfl, .inr (SqT.of ht), rfl, ?_⟩
      rw [if_neg (fun z => z rfl)]
      exact ⟨rfl, _, rfl⟩
    · rintro σ H8 ⟨rfl, v10, rfl⟩
      refine hc _ _ ?_
      clear hc c
      have n9 : p9 ≠ qi := fun z => by subst z; rw [hqi] at hp9; cases hp9
      have n90 : p9 ≠ q0 := fun z => by subst z; rw [hh0] at hp9; cases hp9
      have n92 : i + 1 ≤ 1 → p9 ≠ q2 := fun z e => by subst e; rw [hh2 (by omega)] at hp9; cases hp9
      have g9 : H5 p9 = none := s7.free hp9
      refine seq_any fun c hc => ?_
      simp only [tCompSet, tRaise, tIsi, tSeq, tAsg, gName, tOp, tUn, tVar, tC, tTest, tB, tIf, tIfS, tAnd, tOr, tNot, tAndV, tOrV, tNotV, tRet, tRetN, tNext, tDrop, tCB, tCons, tNil, tBM, tBM0, tCall, tLst, tTup, tSl, tPart, tNoPart, tIsN, tNotN, tYes, tBreak, tCont, rI0, rI, rU, rEq, rNe, L2.start, compSt, List.map_cons, List.map_nil, List.length_cons, List.length_nil, List.replicate_succ, List.replicate_zero, List.cons_append, List.nil_append, List.append_nil, List.getElem?_cons_zero, List.getElem?_cons_succ, List.set_cons_zero, List.set_cons_succ, Option.some.injEq, Option.join_some, V.int.injEq, V.str.injEq, V.bl.injEq, V.ref.injEq, txt_inj, exists_eq_left', exists_eq_left, exists_and_left, and_true, true_and, decide_eq_true_eq, reduceCtorEq, decide_false, decide_true, Bool.not_false, Bool.not_true, if_true, if_false, Bool.false_eq_true, Nat.reduceAdd, Nat.reduceSub, Bool.not_eq_true', decide_eq_false_iff_not, not_true_eq_false, not_false_eq_true]
      refine ⟨.inl ⟨rfl, _, SqL.of hqi7⟩, qi, xs, rfl, rfl, hqi7, hc _ _ ?_⟩
      clear hc c
      simp only [tCompSet, tRaise, tIsi, tSeq, tAsg, gName, tOp, tUn, tVar, tC, tTest, tB, tIf, tIfS, tAnd, tOr, tNot, tAndV, tOrV, tNotV, tRet, tRetN, tNext, tDrop, tCB, tCons, tNil, tBM, tBM0, tCall, tLst, tTup, tSl, tPart, tNoPart, tIsN, tNotN, tYes, tBreak, tCont, rI0, rI, rU, rEq, rNe, L2.start, compSt, List.map_cons, List.map_nil, List.length_cons, List.length_nil, List.replicate_succ, List.replicate_zero, List.cons_append, List.nil_append, List.append_nil, List.getElem?_cons_zero, List.getElem?_cons_succ, List.set_cons_zero, List.set_cons_succ, Option.some.injEq, Option.join_some, V.int.injEq, V.str.injEq, V.bl.injEq, V.ref.injEq, txt_inj, exists_eq_left', exists_eq_left, exists_and_left, and_true, true_and, decide_eq_true_eq, reduceCtorEq, decide_false, decide_true, Bool.not_false, Bool.not_true, if_true, if_false, Bool.false_eq_true, Nat.reduceAdd, Nat.reduceSub, Bool.not_eq_true', decide_eq_false_iff_not, not_true_eq_false, not_false_eq_true]
      have hf8 : (upd H8 qi (.lst [])) p9 = some (.lst fs) := by rw [upd_ne n9]; exact hf
      refine ⟨.inl ⟨rfl, _, SqL.of hf8⟩, by decide, fun t ht => ?_⟩
      have n9t : p9 ≠ t := fun z => by subst z; rw [hf8] at ht; cases ht
      have gt : H5 t = none := (s78.set gi).free ht
      refine ⟨p9, fs, _, rfl, rfl, by rw [upd_ne n9t]; exact hf8, by rw [hfs.len, rows_len, sizeLine_eq]; omega, ?_⟩
      have s9 : Same H5 (upd (upd (upd H8 qi (.lst [])) t (.tup [V.str (txt [98]), V.non])) p9 (.lst (fs ++ [V.ref t]))) := ((s78.set gi).set gt).set g9
      have k0 : ∀ z, z ≠ qi → z ≠ p9 → ∀ o, H8 z = some o → (upd (upd (upd H8 qi (.lst [])) t (.tup [V.str (txt [98]), V.non])) p9 (.lst (fs ++ [V.ref t]))) z = some o := fun z a b o e => by
        have : z ≠ t := fun w => by subst w; rw [upd_ne a, e] at ht; cases ht
        rw [upd_ne b, upd_ne this, upd_ne a]; exact e
      exact ⟨_, _, _, s9, k0 q0 (Ne.symm hi0) (Ne.symm n90) _ (s8 _ _ hh0), fun z => by omega, fun z => k0 q2 (hnext z) (Ne.symm (n92 z)) _ (s8 _ _ (hh2 (by omega))), rfl⟩
  · rintro σ H6 ⟨v8, v9, v10, s7, hh0, hh1, hh2, rfl⟩
    refine hc _ _ ?_
    simp only [tCompSet, tRaise, tIsi, tSeq, tAsg, gName, tOp, tUn, tVar, tC, tTest, tB, tIf, tIfS, tAnd, tOr, tNot, tAndV, tOrV, tNotV, tRet, tRetN, tNext, tDrop, tCB, tCons, tNil, tBM, tBM0, tCall, tLst, tTup, tSl, tPart, tNoPart, tIsN, tNotN, tYes, tBreak, tCont, rI0, rI, rU, rEq, rNe, L2.start, compSt, List.map_cons, List.map_nil, List.length_cons, List.length_nil, List.replicate_succ, List.replicate_zero, List.cons_append, List.nil_append, List.append_nil, List.getElem?_cons_zero, List.getElem?_cons_succ, List.set_cons_zero, List.set_cons_succ, Option.some.injEq, Option.join_some, V.int.injEq, V.str.injEq, V.bl.injEq, V.ref.injEq, txt_inj, exists_eq_left', exists_eq_left, exists_and_left, and_true, true_and, decide_eq_true_eq, reduceCtorEq, decide_false, decide_true, Bool.not_false, Bool.not_true, if_true, if_false, Bool.false_eq_true, Nat.reduceAdd, Nat.reduceSub, Bool.not_eq_true', decide_eq_false_iff_not, not_true_eq_false, not_false_eq_true]
    exact q _
section
variable {P : Program} {w : World} {K : PySem.W.Frag} {mg : Str → Option Value} {base : Heap} {a : Ad}
theorem ok_power (T : Tx K mg a) : FnOk P w K mg base CX0 1 a.f_power a.fd_power ["letters", "long"] spPower :=
  T.F_power.okQ sc_power (fun _ _ _ _ ⟨_, _, e, _⟩ => by rw [e]; rfl) (fun _ _ _ _ _ _ hr => pr_power T  hr) fun _ _ _ _ h => read_power rfl h
theorem ok_mark_of (T : Tx K mg a) : FnOk P w K mg base CX0 1 a.f_mark_of a.fd_mark_of ["letters", "number", "long"] spMarkOf :=
  T.F_mark_of.okQ sc_mark_of (fun _ _ _ _ ⟨_, _, _, e, _⟩ => by rw [e]; rfl) (fun _ _ _ _ _ _ hr => pr_mark_of T  hr) fun _ _ _ _ h => read_markOf rfl h
theorem ok_spread (T : Tx K mg a) : FnOk P w K mg base CX0 1 a.f_spread a.fd_spread ["many", "whole"] spSpread :=
  T.F_spread.okQ sc_spread (fun _ _ _ _ ⟨_, _, e, _⟩ => by rw [e]; rfl) (fun _ _ _ _ _ _ hr => pr_spread T  hr) fun _ _ _ _ h => read_spread rfl h
theorem ok_renewed_long (T : Tx K mg a) : FnOk P w K mg base CX0 1 a.f_renewed_long a.fd_renewed_long ["letters", "many"] spRenLong :=
  T.F_renewed_long.okQ sc_renewed_long (fun _ _ _ _ ⟨_, _, e, _⟩ => by rw [e]; rfl) (fun _ _ _ _ _ _ hr => pr_renewed_long T  hr) fun _ _ _ _ h => read_renLong rfl h
theorem ok_renewed (T : Tx K mg a) : FnOk P w K mg base CX0 2 a.f_renewed a.fd_renewed ["letters", "many"] spRenewed :=
  T.F_renewed.okQ sc_renewed (fun _ _ _ _ ⟨_, _, e, _⟩ => by rw [e]; rfl) (fun _ _ _ _ _ _ hr => pr_renewed T (ok_renewed_long T) (ok_power T) (ok_spread T) (ok_mark_of T) hr) fun _ _ _ _ h => read_renewed rfl h
theorem ok_renewal_rows (T : Tx K mg a) : FnOk P w K mg base CX0 3 a.f_renewal_rows a.fd_renewal_rows ["letters", "known"] (spRows K) :=
  T.F_renewal_rows.okQ sc_renewal_rows (fun _ _ _ _ ⟨_, _, _, e, _⟩ => by rw [e]; rfl) (fun _ _ _ _ _ _ hr => pr_renewal_rows T (ok_renewed T) hr) fun _ _ _ _ h => read_rows rfl h
theorem ok_draw (T : Tx K mg a) : FnOk P w K mg base CX0 1 a.f_draw a.fd_draw ["_law_script", "_law_k", "_law_many"] (spDraw K) :=
  T.F_draw.okQ sc_draw (fun _ _ _ _ ⟨_, _, _, _, e, _⟩ => by rw [e]; rfl) (fun _ _ _ _ _ _ hr => pr_draw T  hr) fun _ _ _ _ h => read_draw2 rfl h
theorem ok_letters (T : Tx K mg a) : FnOk P w K mg base CX0 2 a.f_letters a.fd_letters ["_law_script"] (spLetters K) :=
  T.F_letters.okQ sc_letters (fun _ _ _ _ ⟨_, _, e, _⟩ => by rw [e]; rfl) (fun _ _ _ _ _ _ hr => pr_letters T (ok_draw T) hr) fun _ _ _ _ h => read_letters rfl h
theorem ok_text (T : Tx K mg a) : FnOk P w K mg base CX0 1 a.f_text a.fd_text ["_law_letters_here", "_law_number", "_law_long"] spText :=
  T.F_text.okQ sc_text (fun _ _ _ _ ⟨_, _, _, e, _⟩ => by rw [e]; rfl) (fun _ _ _ _ _ _ hr => pr_text T  hr) fun _ _ _ _ h => read_text rfl h
theorem ok_mark (T : Tx K mg a) : FnOk P w K mg base CX0 2 a.f_mark a.fd_mark ["_law_script", "_law_base", "_law_letters_here"] (spMark41 K) :=
  T.F_mark.okQ sc_mark (fun _ _ _ _ ⟨_, _, _, _, e, _⟩ => by rw [e]; rfl) (fun _ _ _ _ _ _ hr => pr_mark T (ok_draw T) hr) fun _ _ _ _ h => read_mark41 rfl h
theorem ok_marks (T : Tx K mg a) : FnOk P w K mg base CX0 3 a.f_marks a.fd_marks ["_law_script", "_law_base", "_law_letters_here", "_law_many"] (spMarks K) :=
  T.F_marks.okQ sc_marks (fun _ _ _ _ ⟨_, _, _, _, _, e, _⟩ => by rw [e]; rfl) (fun _ _ _ _ _ _ hr => pr_marks T (ok_mark T) (ok_draw T) hr) fun _ _ _ _ h => read_marks rfl h
theorem ok_due (T : Tx K mg a) : FnOk P w K mg base CX0 2 a.f_due a.fd_due ["_law_letters_here", "_law_known"] (spRows K) :=
  T.F_due.okQ sc_due (fun _ _ _ _ ⟨_, _, _, e, _⟩ => by rw [e]; rfl) (fun _ _ _ _ _ _ hr => pr_due T (ok_text T) hr) fun _ _ _ _ h => read_due rfl h
theorem ok_law (T : Tx K mg a) : FnOk P w K mg base CX0 4 a.f_law a.fd_law ["_law_script"] (spLaw K) :=
  T.F_law.okQ sc_law (fun _ _ _ _ ⟨_, _, e, _⟩ => by rw [e]; rfl) (fun _ _ _ _ _ _ hr => pr_law T (ok_letters T) (ok_draw T) (ok_marks T) (ok_due T) (ok_renewal_rows T) hr) fun _ _ _ _ h => read_law rfl h
end
theorem tx_mk {K : PySem.W.Frag} {h : Heap} {mg : Str → Option Value} (X : K.In h) (G : h.Ns mainGlobals mg)
    {f_power : Addr} {od_power an_power : Option Addr} {sl_power : Array (Option Value)} {oc_power kV_power dc_power pm_power cd_power ct_power : Value}
    (a_power : PySem.W.nsIn K mainGlobals "power" = some (some (.ref f_power))) (l_power : K.lookup f_power = some ⟨oc_power, od_power, .func (PySem.W.fnOf "power" "power" (defArgs s_power) (defBody s_power) (defScope s_power) .none kV_power dc_power pm_power an_power cd_power ct_power), sl_power⟩) (c_power : PySem.W.codeIn K cd_power "power" = true) (k_power : PySem.W.keepIn K (.ref f_power) = true)
    {f_mark_of : Addr} {od_mark_of an_mark_of : Option Addr} {sl_mark_of : Array (Option Value)} {oc_mark_of kV_mark_of dc_mark_of pm_mark_of cd_mark_of ct_mark_of : Value}
    (a_mark_of : PySem.W.nsIn K mainGlobals "mark_of" = some (some (.ref f_mark_of))) (l_mark_of : K.lookup f_mark_of = some ⟨oc_mark_of, od_mark_of, .func (PySem.W.fnOf "mark_of" "mark_of" (defArgs s_mark_of) (defBody s_mark_of) (defScope s_mark_of) .none kV_mark_of dc_mark_of pm_mark_of an_mark_of cd_mark_of ct_mark_of), sl_mark_of⟩) (c_mark_of : PySem.W.codeIn K cd_mark_of "mark_of" = true) (k_mark_of : PySem.W.keepIn K (.ref f_mark_of) = true)
    {f_spread : Addr} {od_spread an_spread : Option Addr} {sl_spread : Array (Option Value)} {oc_spread kV_spread dc_spread pm_spread cd_spread ct_spread : Value}
    (a_spread : PySem.W.nsIn K mainGlobals "spread" = some (some (.ref f_spread))) (l_spread : K.lookup f_spread = some ⟨oc_spread, od_spread, .func (PySem.W.fnOf "spread" "spread" (defArgs s_spread) (defBody s_spread) (defScope s_spread) .none kV_spread dc_spread pm_spread an_spread cd_spread ct_spread), sl_spread⟩) (c_spread : PySem.W.codeIn K cd_spread "spread" = true) (k_spread : PySem.W.keepIn K (.ref f_spread) = true)
    {f_renewed_long : Addr} {od_renewed_long an_renewed_long : Option Addr} {sl_renewed_long : Array (Option Value)} {oc_renewed_long kV_renewed_long dc_renewed_long pm_renewed_long cd_renewed_long ct_renewed_long : Value}
    (a_renewed_long : PySem.W.nsIn K mainGlobals "renewed_long" = some (some (.ref f_renewed_long))) (l_renewed_long : K.lookup f_renewed_long = some ⟨oc_renewed_long, od_renewed_long, .func (PySem.W.fnOf "renewed_long" "renewed_long" (defArgs s_renewed_long) (defBody s_renewed_long) (defScope s_renewed_long) .none kV_renewed_long dc_renewed_long pm_renewed_long an_renewed_long cd_renewed_long ct_renewed_long), sl_renewed_long⟩) (c_renewed_long : PySem.W.codeIn K cd_renewed_long "renewed_long" = true) (k_renewed_long : PySem.W.keepIn K (.ref f_renewed_long) = true)
    {f_renewed : Addr} {od_renewed an_renewed : Option Addr} {sl_renewed : Array (Option Value)} {oc_renewed kV_renewed dc_renewed pm_renewed cd_renewed ct_renewed : Value}
    (a_renewed : PySem.W.nsIn K mainGlobals "renewed" = some (some (.ref f_renewed))) (l_renewed : K.lookup f_renewed = some ⟨oc_renewed, od_renewed, .func (PySem.W.fnOf "renewed" "renewed" (defArgs s_renewed) (defBody s_renewed) (defScope s_renewed) .none kV_renewed dc_renewed pm_renewed an_renewed cd_renewed ct_renewed), sl_renewed⟩) (c_renewed : PySem.W.codeIn K cd_renewed "renewed" = true) (k_renewed : PySem.W.keepIn K (.ref f_renewed) = true)
    {f_renewal_rows : Addr} {od_renewal_rows an_renewal_rows : Option Addr} {sl_renewal_rows : Array (Option Value)} {oc_renewal_rows kV_renewal_rows dc_renewal_rows pm_renewal_rows cd_renewal_rows ct_renewal_rows : Value}
    (a_renewal_rows : PySem.W.nsIn K mainGlobals "renewal_rows" = some (some (.ref f_renewal_rows))) (l_renewal_rows : K.lookup f_renewal_rows = some ⟨oc_renewal_rows, od_renewal_rows, .func (PySem.W.fnOf "renewal_rows" "renewal_rows" (defArgs s_renewal_rows) (defBody s_renewal_rows) (defScope s_renewal_rows) .none kV_renewal_rows dc_renewal_rows pm_renewal_rows an_renewal_rows cd_renewal_rows ct_renewal_rows), sl_renewal_rows⟩) (c_renewal_rows : PySem.W.codeIn K cd_renewal_rows "renewal_rows" = true) (k_renewal_rows : PySem.W.keepIn K (.ref f_renewal_rows) = true)
    {f_draw : Addr} {od_draw an_draw : Option Addr} {sl_draw : Array (Option Value)} {oc_draw kV_draw dc_draw pm_draw cd_draw ct_draw : Value}
    (a_draw : PySem.W.nsIn K mainGlobals "_law_draw" = some (some (.ref f_draw))) (l_draw : K.lookup f_draw = some ⟨oc_draw, od_draw, .func (PySem.W.fnOf "_law_draw" "_law_draw" (defArgs s_draw) (defBody s_draw) (defScope s_draw) .none kV_draw dc_draw pm_draw an_draw cd_draw ct_draw), sl_draw⟩) (c_draw : PySem.W.codeIn K cd_draw "_law_draw" = true) (k_draw : PySem.W.keepIn K (.ref f_draw) = true)
    {f_letters : Addr} {od_letters an_letters : Option Addr} {sl_letters : Array (Option Value)} {oc_letters kV_letters dc_letters pm_letters cd_letters ct_letters : Value}
    (a_letters : PySem.W.nsIn K mainGlobals "_law_letters" = some (some (.ref f_letters))) (l_letters : K.lookup f_letters = some ⟨oc_letters, od_letters, .func (PySem.W.fnOf "_law_letters" "_law_letters" (defArgs s_letters) (defBody s_letters) (defScope s_letters) .none kV_letters dc_letters pm_letters an_letters cd_letters ct_letters), sl_letters⟩) (c_letters : PySem.W.codeIn K cd_letters "_law_letters" = true) (k_letters : PySem.W.keepIn K (.ref f_letters) = true)
    {f_text : Addr} {od_text an_text : Option Addr} {sl_text : Array (Option Value)} {oc_text kV_text dc_text pm_text cd_text ct_text : Value}
    (a_text : PySem.W.nsIn K mainGlobals "_law_text" = some (some (.ref f_text))) (l_text : K.lookup f_text = some ⟨oc_text, od_text, .func (PySem.W.fnOf "_law_text" "_law_text" (defArgs s_text) (defBody s_text) (defScope s_text) .none kV_text dc_text pm_text an_text cd_text ct_text), sl_text⟩) (c_text : PySem.W.codeIn K cd_text "_law_text" = true) (k_text : PySem.W.keepIn K (.ref f_text) = true)
    {f_mark : Addr} {od_mark an_mark : Option Addr} {sl_mark : Array (Option Value)} {oc_mark kV_mark dc_mark pm_mark cd_mark ct_mark : Value}
    (a_mark : PySem.W.nsIn K mainGlobals "_law_mark" = some (some (.ref f_mark))) (l_mark : K.lookup f_mark = some ⟨oc_mark, od_mark, .func (PySem.W.fnOf "_law_mark" "_law_mark" (defArgs s_mark) (defBody s_mark) (defScope s_mark) .none kV_mark dc_mark pm_mark an_mark cd_mark ct_mark), sl_mark⟩) (c_mark : PySem.W.codeIn K cd_mark "_law_mark" = true) (k_mark : PySem.W.keepIn K (.ref f_mark) = true)
    {f_marks : Addr} {od_marks an_marks : Option Addr} {sl_marks : Array (Option Value)} {oc_marks kV_marks dc_marks pm_marks cd_marks ct_marks : Value}
    (a_marks : PySem.W.nsIn K mainGlobals "_law_marks" = some (some (.ref f_marks))) (l_marks : K.lookup f_marks = some ⟨oc_marks, od_marks, .func (PySem.W.fnOf "_law_marks" "_law_marks" (defArgs s_marks) (defBody s_marks) (defScope s_marks) .none kV_marks dc_marks pm_marks an_marks cd_marks ct_marks), sl_marks⟩) (c_marks : PySem.W.codeIn K cd_marks "_law_marks" = true) (k_marks : PySem.W.keepIn K (.ref f_marks) = true)
    {f_due : Addr} {od_due an_due : Option Addr} {sl_due : Array (Option Value)} {oc_due kV_due dc_due pm_due cd_due ct_due : Value}
    (a_due : PySem.W.nsIn K mainGlobals "_law_due" = some (some (.ref f_due))) (l_due : K.lookup f_due = some ⟨oc_due, od_due, .func (PySem.W.fnOf "_law_due" "_law_due" (defArgs s_due) (defBody s_due) (defScope s_due) .none kV_due dc_due pm_due an_due cd_due ct_due), sl_due⟩) (c_due : PySem.W.codeIn K cd_due "_law_due" = true) (k_due : PySem.W.keepIn K (.ref f_due) = true)
    {f_law : Addr} {od_law an_law : Option Addr} {sl_law : Array (Option Value)} {oc_law kV_law dc_law pm_law cd_law ct_law : Value}
    (a_law : PySem.W.nsIn K mainGlobals "law" = some (some (.ref f_law))) (l_law : K.lookup f_law = some ⟨oc_law, od_law, .func (PySem.W.fnOf "law" "law" (defArgs s_law) (defBody s_law) (defScope s_law) .none kV_law dc_law pm_law an_law cd_law ct_law), sl_law⟩) (c_law : PySem.W.codeIn K cd_law "law" = true) (k_law : PySem.W.keepIn K (.ref f_law) = true)
    {t_SMALL : Tok} (q_SMALL : PySem.W.nsIn K mainGlobals "SMALL" = some (some (.str "abcdefghijklmnopqrstuvwxyz" t_SMALL)))
    (z_isinstance : PySem.W.nsIn K mainGlobals "isinstance" = some none)
    (z_len : PySem.W.nsIn K mainGlobals "len" = some none)
    (z_list : PySem.W.nsIn K mainGlobals "list" = some none)
    (z_min : PySem.W.nsIn K mainGlobals "min" = some none)
    (z_range : PySem.W.nsIn K mainGlobals "range" = some none)
    (z_sorted : PySem.W.nsIn K mainGlobals "sorted" = some none)
    (z_tuple : PySem.W.nsIn K mainGlobals "tuple" = some none)
    : ∃ a : Ad, Tx K mg a ∧ mg "law" = some (.ref a.f_law) ∧ ∀ (s : Shared) (v : Value), BindsTo s a.fd_law ⟨[v], []⟩ [("_law_script", v)] := by
  have F_power := fun_mk (st := s_power) l_power c_power k_power
  have b_power := F_power.binds (ps := ["letters", "long"]) fun _ _ _ _ _ _ us hl => match us, hl with | [_, _], _ => rfl
  have F_mark_of := fun_mk (st := s_mark_of) l_mark_of c_mark_of k_mark_of
  have b_mark_of := F_mark_of.binds (ps := ["letters", "number", "long"]) fun _ _ _ _ _ _ us hl => match us, hl with | [_, _, _], _ => rfl
  have F_spread := fun_mk (st := s_spread) l_spread c_spread k_spread
  have b_spread := F_spread.binds (ps := ["many", "whole"]) fun _ _ _ _ _ _ us hl => match us, hl with | [_, _], _ => rfl
  have F_renewed_long := fun_mk (st := s_renewed_long) l_renewed_long c_renewed_long k_renewed_long
  have b_renewed_long := F_renewed_long.binds (ps := ["letters", "many"]) fun _ _ _ _ _ _ us hl => match us, hl with | [_, _], _ => rfl
  have F_renewed := fun_mk (st := s_renewed) l_renewed c_renewed k_renewed
  have b_renewed := F_renewed.binds (ps := ["letters", "many"]) fun _ _ _ _ _ _ us hl => match us, hl with | [_, _], _ => rfl
  have F_renewal_rows := fun_mk (st := s_renewal_rows) l_renewal_rows c_renewal_rows k_renewal_rows
  have b_renewal_rows := F_renewal_rows.binds (ps := ["letters", "known"]) fun _ _ _ _ _ _ us hl => match us, hl with | [_, _], _ => rfl
  have F_draw := fun_mk (st := s_draw) l_draw c_draw k_draw
  have b_draw := F_draw.binds (ps := ["_law_script", "_law_k", "_law_many"]) fun _ _ _ _ _ _ us hl => match us, hl with | [_, _, _], _ => rfl
  have F_letters := fun_mk (st := s_letters) l_letters c_letters k_letters
  have b_letters := F_letters.binds (ps := ["_law_script"]) fun _ _ _ _ _ _ us hl => match us, hl with | [_], _ => rfl
  have F_text := fun_mk (st := s_text) l_text c_text k_text
  have b_text := F_text.binds (ps := ["_law_letters_here", "_law_number", "_law_long"]) fun _ _ _ _ _ _ us hl => match us, hl with | [_, _, _], _ => rfl
  have F_mark := fun_mk (st := s_mark) l_mark c_mark k_mark
  have b_mark := F_mark.binds (ps := ["_law_script", "_law_base", "_law_letters_here"]) fun _ _ _ _ _ _ us hl => match us, hl with | [_, _, _], _ => rfl
  have F_marks := fun_mk (st := s_marks) l_marks c_marks k_marks
  have b_marks := F_marks.binds (ps := ["_law_script", "_law_base", "_law_letters_here", "_law_many"]) fun _ _ _ _ _ _ us hl => match us, hl with | [_, _, _, _], _ => rfl
  have F_due := fun_mk (st := s_due) l_due c_due k_due
  have b_due := F_due.binds (ps := ["_law_letters_here", "_law_known"]) fun _ _ _ _ _ _ us hl => match us, hl with | [_, _], _ => rfl
  have F_law := fun_mk (st := s_law) l_law c_law k_law
  have b_law := F_law.binds (ps := ["_law_script"]) fun _ _ _ _ _ _ us hl => match us, hl with | [_], _ => rfl
  exact ⟨⟨f_power, f_mark_of, f_spread, f_renewed_long, f_renewed, f_renewal_rows, f_draw, f_letters, f_text, f_mark, f_marks, f_due, f_law, _, _, _, _, _, _, _, _, _, _, _, _, _⟩, ⟨PySem.W.mg_none_of X G z_isinstance, PySem.W.mg_none_of X G z_len, PySem.W.mg_none_of X G z_list, PySem.W.mg_none_of X G z_min, PySem.W.mg_none_of X G z_range, PySem.W.mg_none_of X G z_sorted, PySem.W.mg_none_of X G z_tuple, ⟨_, PySem.W.mg_of X G q_SMALL⟩, PySem.W.mg_of X G a_power, F_power, b_power, PySem.W.mg_of X G a_mark_of, F_mark_of, b_mark_of, PySem.W.mg_of X G a_spread, F_spread, b_spread, PySem.W.mg_of X G a_renewed_long, F_renewed_long, b_renewed_long, PySem.W.mg_of X G a_renewed, F_renewed, b_renewed, PySem.W.mg_of X G a_renewal_rows, F_renewal_rows, b_renewal_rows, PySem.W.mg_of X G a_draw, F_draw, b_draw, PySem.W.mg_of X G a_letters, F_letters, b_letters, PySem.W.mg_of X G a_text, F_text, b_text, PySem.W.mg_of X G a_mark, F_mark, b_mark, PySem.W.mg_of X G a_marks, F_marks, b_marks, PySem.W.mg_of X G a_due, F_due, b_due, PySem.W.mg_of X G a_law, F_law, b_law⟩, PySem.W.mg_of X G a_law, fun s v => .of_eq rfl⟩
theorem walk {l : PySem.W.OpenLaw} {q : Program} {loose : List Str} {XP : (Str → Option Value) → Heap → Prop} {YP : World → Heap → Prop} {d : DefRec} {K : Params → PySem.W.Frag} (hn : l.most = some 63) (hdf : d.params.defaults = [])
    (hY : ∀ (w : World) (h : Heap), YP w h → (K w.params).In h)
    (F : ∀ (w : World) (mg : Str → Option Value) (fa : Addr) (h : Heap), (K w.params).In h → h.Ns mainGlobals mg → mg d.name = some (.ref fa) →
      ∃ fd : FuncData, (∀ (s : Shared) (u : Value), BindsTo s fd ⟨[u], []⟩ [("_law_script", u)]) ∧ ∀ base : Heap, (K w.params).In base → base.Ns mainGlobals mg → FnOk l.prog w (K w.params) mg base CX0 4 fa fd ["_law_script"] (spLaw (K w.params))) :
    PySem.W.WalkO q loose XP YP l.row.toRowW d [] (fun f vs => PySem.call f vs) :=
  L2.walk_of (n := 63) (k := 4) (x := "_law_script") (CX := fun _ => CX0) (sp := fun w => spLaw (K w.params)) hn (by decide) hdf ⟨rfl, by decide, by decide⟩ hY F (fun _ _ a ns hl _ hS => ⟨a, ns, rfl, hS, hl, fun _ => rfl⟩) fun _ _ _ _ _ z => z
end K40
open PySem PySem.W PyProof.Rows
set_option maxRecDepth 100000 in
set_option maxHeartbeats 0 in
theorem PySem.Challenge.cw_shelfmark_k40_rows_of_renewals_holds : PySem.Challenge.rw_shelfmark_k40_rows_of_renewals.Holds := by
  w_on; o_law; k_head; (case hw => w_witness2)
  k_fill
  refine K40.walk (l := PySem.Challenge.rw_shelfmark_k40_rows_of_renewals) rfl rfl (fun w h Y => PySem.W.kIn_of Y) ?F
  case F =>
    intro w mg fa h KX G hmg
    have M : ∃ a : K40.Ad, K40.Tx (L2.KOf KX) mg a ∧ mg "law" = some (.ref a.f_law) ∧ ∀ (s : Shared) (v : Value), BindsTo s a.fd_law ⟨[v], []⟩ [("_law_script", v)] := by
      dsimp only [L2.KOf]
      refine' K40.tx_mk KX G ?a_power ?l_power ?c_power ?k_power ?a_mark_of ?l_mark_of ?c_mark_of ?k_mark_of ?a_spread ?l_spread ?c_spread ?k_spread ?a_renewed_long ?l_renewed_long ?c_renewed_long ?k_renewed_long ?a_renewed ?l_renewed ?c_renewed ?k_renewed ?a_renewal_rows ?l_renewal_rows ?c_renewal_rows ?k_renewal_rows ?a_draw ?l_draw ?c_draw ?k_draw ?a_letters ?l_letters ?c_letters ?k_letters ?a_text ?l_text ?c_text ?k_text ?a_mark ?l_mark ?c_mark ?k_mark ?a_marks ?l_marks ?c_marks ?k_marks ?a_due ?l_due ?c_due ?k_due ?a_law ?l_law ?c_law ?k_law ?q_SMALL ?z_isinstance ?z_len ?z_list ?z_min ?z_range ?z_sorted ?z_tuple
      (case a_power => k_is)
      (case l_power => k_is)
      (case c_power => k_is)
      (case k_power => k_is)
      (case a_mark_of => k_is)
      (case l_mark_of => k_is)
      (case c_mark_of => k_is)
      (case k_mark_of => k_is)
      (case a_spread => k_is)
      (case l_spread => k_is)
      (case c_spread => k_is)
      (case k_spread => k_is)
      (case a_renewed_long => k_is)
      (case l_renewed_long => k_is)
      (case c_renewed_long => k_is)
      (case k_renewed_long => k_is)
      (case a_renewed => k_is)
      (case l_renewed => k_is)
      (case c_renewed => k_is)
      (case k_renewed => k_is)
      (case a_renewal_rows => k_is)
      (case l_renewal_rows => k_is)
      (case c_renewal_rows => k_is)
      (case k_renewal_rows => k_is)
      (case a_draw => k_is)
      (case l_draw => k_is)
      (case c_draw => k_is)
      (case k_draw => k_is)
      (case a_letters => k_is)
      (case l_letters => k_is)
      (case c_letters => k_is)
      (case k_letters => k_is)
      (case a_text => k_is)
      (case l_text => k_is)
      (case c_text => k_is)
      (case k_text => k_is)
      (case a_mark => k_is)
      (case l_mark => k_is)
      (case c_mark => k_is)
      (case k_mark => k_is)
      (case a_marks => k_is)
      (case l_marks => k_is)
      (case c_marks => k_is)
      (case k_marks => k_is)
      (case a_due => k_is)
      (case l_due => k_is)
      (case c_due => k_is)
      (case k_due => k_is)
      (case a_law => k_is)
      (case l_law => k_is)
      (case c_law => k_is)
      (case k_law => k_is)
      (case q_SMALL => k_is)
      (case z_isinstance => k_is)
      (case z_len => k_is)
      (case z_list => k_is)
      (case z_min => k_is)
      (case z_range => k_is)
      (case z_sorted => k_is)
      (case z_tuple => k_is)
    obtain ⟨a, T, hl, hb⟩ := M
    have e0 := hmg.symm.trans hl
    cases e0
    exact ⟨_, hb, fun base _ _ => K40.ok_law T⟩

