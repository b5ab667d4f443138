import PyProof.Rows.All
import Wide.All
import OpenK.AllK
import Wide.FinOn
import Lean
import PyProof.EqAt
import PyProof.EqKinds
import PyProof.TupleCall
import KE.IntBitsLaws
import PySem.Challenge.RW_shelfmark_k41_stems
set_option Elab.async false
set_option linter.all false
set_option maxRecDepth 100000
namespace L2
open PySem PySem.Spec PyProof.Rows
abbrev Key := Sum Int Str
def keyIs : Key → Value → Bool
  | .inl k, v => Value.isInt k v
  | .inr x, v => Value.isStrOf x v
def keyH (w : World) : Key → Int
  | .inl k => hashInt k
  | .inr x => hashStr w x
theorem keyIs_shape : ∀ {k : Key} {v : Value}, keyIs k v = true → (∃ i t, k = Sum.inl i ∧ v = Value.int i t) ∨ (∃ x t, k = Sum.inr x ∧ v = Value.str x t)
  | .inl i, v, h => by
    obtain ⟨t, e⟩ := Value.isInt_shape (k := i) (v := v) h
    exact .inl ⟨i, t, rfl, e⟩
  | .inr x, v, h => by
    obtain ⟨t, e⟩ := Value.isStrOf_shape (x := x) (v := v) h
    exact .inr ⟨x, t, rfl, e⟩
theorem key_ll (a b : Int) : decide ((Sum.inl a : Key) = Sum.inl b) = (a == b) := by
  by_cases e : a = b
  · subst e; simp
  · have h : ¬ (Sum.inl a : Key) = Sum.inl b := fun q => e (Sum.inl.inj q)
    rw [decide_eq_false h]
    exact (beq_eq_false_iff_ne.mpr e).symm
theorem key_rr (a b : Str) : decide ((Sum.inr a : Key) = Sum.inr b) = decide (a = b) := by
  by_cases e : a = b
  · subst e; simp
  · have h : ¬ (Sum.inr a : Key) = Sum.inr b := fun q => e (Sum.inr.inj q)
    rw [decide_eq_false h, decide_eq_false e]
theorem key_lr (a : Int) (b : Str) : decide ((Sum.inl a : Key) = Sum.inr b) = false := decide_eq_false (fun q => nomatch q)
theorem key_rl (a : Str) (b : Int) : decide ((Sum.inr a : Key) = Sum.inl b) = false := decide_eq_false (fun q => nomatch q)
def mixKind (prog : Program) (w : World) : PySem.KeyKind prog w Key where
  is := keyIs
  hash := keyH w
  inj := fun v a b ha hb => by
    rcases keyIs_shape ha with ⟨i, t, rfl, rfl⟩ | ⟨x, t, rfl, rfl⟩
    · rcases keyIs_shape hb with ⟨j, u, rfl, e⟩ | ⟨y, u, rfl, e⟩
      · injection e with e1 _; rw [e1]
      · exact nomatch e
    · rcases keyIs_shape hb with ⟨j, u, rfl, e⟩ | ⟨y, u, rfl, e⟩
      · exact nomatch e
      · injection e with e1 _; rw [e1]
  byValue := fun k v h => by
    rcases keyIs_shape h with ⟨i, t, rfl, rfl⟩ | ⟨x, t, rfl, rfl⟩ <;> rfl
  pyHash := fun hv h => by
    rcases keyIs_shape hv with ⟨i, t, rfl, rfl⟩ | ⟨x, t, rfl, rfl⟩
    · exact wpAny_pyHash_int h
    · exact wpAny_pyHash_str h
  eqBool := fun hu hv h => by
    rcases keyIs_shape hu with ⟨i, t, rfl, rfl⟩ | ⟨x, t, rfl, rfl⟩
    · rcases keyIs_shape hv with ⟨j, u, rfl, rfl⟩ | ⟨y, u, rfl, rfl⟩
      · rw [key_ll] at h; exact wpAny_eqBool_int h
      · rw [key_lr] at h; exact SeqAt.EqAt.int_str i t y u _ _ _ _ h
    · rcases keyIs_shape hv with ⟨j, u, rfl, rfl⟩ | ⟨y, u, rfl, rfl⟩
      · rw [key_rl] at h; exact SeqAt.EqAt.str_int x t j u _ _ _ _ h
      · rw [key_rr] at h; exact wpAny_eqBool_str h
  «strs» := fun k x t v h => by
    rcases keyIs_shape h with ⟨i, u, rfl, e⟩ | ⟨y, u, rfl, e⟩
    · exact nomatch e
    · injection e with e1 _
      subst e1
      cases v <;> rfl
end L2
namespace L2
open PySem PySem.Spec PyProof.Rows
inductive V where
  | non | bl (b : Bool) | int (i : Int) | str (x : Str) | byt (b : Array UInt8) | flt (b : UInt64) | ref (a : Addr) | ty (n : String)
  deriving DecidableEq
def RelV : V → Value → Prop
  | .non, u => u = Value.none
  | .bl b, u => u = Value.bool b
  | .int i, u => ∃ t, u = Value.int i t
  | .str x, u => ∃ t, u = Value.str x t
  | .byt b, u => ∃ t, u = Value.bytes b t
  | .flt b, u => ∃ t, u = Value.float b t
  | .ref a, u => u = Value.ref a
  | .ty n, u => u = Value.type n
abbrev Vals : List V → List Value → Prop := Paired RelV
theorem Vals.length {xs : List V} {us : List Value} (r : Vals xs us) : xs.length = us.length := Paired.length r
theorem Vals.get : ∀ {xs : List V} {us : List Value} {i : Nat} {x : V}, Vals xs us → xs[i]? = some x → ∃ u, us[i]? = some u ∧ RelV x u
  | _, _, _, _, .nil, e => by simp at e
  | _, _, 0, _, .cons r _, e => by simp at e; subst e; exact ⟨_, rfl, r⟩
  | _, _, i + 1, x, .cons _ t, e => by
    obtain ⟨u, h1, h2⟩ := Vals.get (i := i) (x := x) t (by simpa using e)
    exact ⟨u, by simpa using h1, h2⟩
theorem Vals.set {x : V} {u : Value} (r : RelV x u) : ∀ {xs : List V} {us : List Value} (i : Nat), Vals xs us → Vals (xs.set i x) (us.set i u)
  | _, _, _, .nil => .nil
  | _, _, 0, .cons _ t => .cons r t
  | _, _, i + 1, .cons q t => .cons q (Vals.set r i t)
theorem Vals.append : ∀ {xs ys : List V} {us ws : List Value}, Vals xs us → Vals ys ws → Vals (xs ++ ys) (us ++ ws)
  | _, _, _, _, .nil, s => s
  | _, _, _, _, .cons r t, s => .cons r (Vals.append t s)
theorem Vals.take : ∀ {xs : List V} {us : List Value} (n : Nat), Vals xs us → Vals (xs.take n) (us.take n)
  | _, _, 0, _ => .nil
  | _, _, _ + 1, .nil => .nil
  | _, _, n + 1, .cons r t => .cons r (Vals.take n t)
theorem Vals.drop : ∀ {xs : List V} {us : List Value} (n : Nat), Vals xs us → Vals (xs.drop n) (us.drop n)
  | _, _, 0, r => r
  | _, _, _ + 1, .nil => .nil
  | _, _, n + 1, .cons _ t => Vals.drop n t
def RelO : Option V → Option Value → Prop
  | some v, some u => RelV v u
  | none, none => True
  | _, _ => False
def KV {κ : Type} : List (κ × V) → List (κ × Value) → Prop := Paired fun (p : κ × V) (q : κ × Value) => p.1 = q.1 ∧ RelV p.2 q.2
def kV : Key → V
  | .inl i => .int i
  | .inr x => .str x
inductive HO where
  /-- a list -/
  | lst (xs : List V)
  /-- a tuple (never changes) -/
  | tup (xs : List V)
  /-- a dict whose keys are ints and texts; one whose keys are tuples of ints and texts (the empty one is both) -/
  | dK (kvs : List (Key × V)) | dT (kvs : List (List Key × V))
  /-- a set of ints: its members, its size -/
  | set (S : Int → Bool) (n : Nat)
  /-- an instance of the class at C, its dict at dx, its attributes -/
  | ins (C dx : Addr) (fs : List (Str × V))
  /-- the dict of the instance at x -/
  | own (x : Addr)
  /-- the dict of an exception -/
  | xd (fs : List (Str × V))
  /-- a bound method, f of x -/
  | met (f x : Addr)
  /-- a range object lo, lo + 1, .. below hi -/
  | rng (lo hi : Int)
  /-- a thing that is known to the object (the script; a dict while a loop walks it): read, never written while it is so -/
  | frz (o : Obj) (u : HO)
  /-- a code object's table -/
  | tbl (ps : Array Value)
  /-- any other thing, by what is true of its one object (a def of one's own: SetO a S n := HO.ext fun h => ..) -/
  | ext (φ : Heap → Prop)
abbrev Hp := Addr → Option HO
def upd (H : Hp) (a : Addr) (o : HO) : Hp := fun b => if b = a then some o else H b
theorem upd_same {H : Hp} {a : Addr} {o : HO} : upd H a o a = some o := by unfold upd; rw [if_pos rfl]
theorem upd_ne {H : Hp} {a b : Addr} {o : HO} (h : b ≠ a) : upd H a o b = H b := by unfold upd; rw [if_neg h]
theorem ne_of_none {H : Hp} {a b : Addr} {o : HO} (h : H a = some o) (h' : H b = none) : a ≠ b := by
  intro e; subst e; rw [h] at h'; cases h'
section
variable (P : Program) (w : World)
def ObjOk (H : Hp) (h : Heap) (a : Addr) : HO → Prop
  | .lst xs => xs.length ≤ sizeLine ∧ ∃ (its : List Value) (n : Nat), Vals xs its ∧ h.get? a = some { cls := .type "list", data := .seq its.toArray n }
  | .tup xs => xs.length ≤ sizeLine ∧ ∃ its : List Value, Vals xs its ∧ IsTup h a its.toArray
  | .dK kvs => kvs.length ≤ sizeLine ∧ (a == sysModules) = false ∧ ∃ vs, KV kvs vs ∧ h.DictOf (mixKind P w) a vs
  | .dT kvs => kvs.length ≤ sizeLine ∧ (a == sysModules) = false ∧ ∃ xs : List (List Key × Addr × Value),
      Paired (fun (p : List Key × V) (q : List Key × Addr × Value) => p.1 = q.1 ∧ H q.2.1 = some (.tup (p.1.map kV)) ∧ RelV p.2 q.2.2) kvs xs ∧
      ∃ o es ep, h.get? a = some o ∧ o.ExactDict ∧ o.data = .dict es ep ∧ es.toList = xs.map (entryOfKey (tupleKind (mixKind P w))) ∧ (xs.map (·.1)).Nodup
  | .set S n => h.SetOf (intKind P w) a S n
  | .ins C dx fs => H dx = some (.own a) ∧ fs.length ≤ 1000 ∧ dx ≠ a ∧ h.get? a = some (PySem.W.instObj C dx) ∧
      ∃ mA, h.Ns1 dx mA ∧ (∀ f, RelO (fs.lookup f) (mA f)) ∧ PySem.Within mA (fs.map (·.1))
  | .own _ => ∃ o, h.get? a = some o
  | .xd fs => ∃ mA, h.Ns1 a mA ∧ ∀ f, RelO (fs.lookup f) (mA f)
  | .rng lo hi => ∃ t u v, h.get? a = some { cls := .type "range", data := .fields #[.int lo t, .int hi u, .int 1 v] }
  | .frz o u => h.get? a = some o ∧ ObjOk H h a u
  | .tbl ps => h.get? a = some { cls := .none, data := .fields ps }
  | .met f x => h.get? a = some (PySem.W.methodObj (.ref f) (.ref x))
  | .ext φ => φ h ∧ (∃ o, h.get? a = some o) ∧ ∀ h1 h2 : Heap, φ h1 → (∀ o, h1.get? a = some o → h2.get? a = some o) → φ h2
def HOk (H : Hp) (h : Heap) : Prop := ∀ a o, H a = some o → ObjOk P w H h a o
end
section
variable {P : Program} {w : World} {H H' : Hp} {h h' : Heap} {a : Addr} {o : HO}
theorem ObjOk.lt (x : ObjOk P w H h a o) : a < h.objs.size := by
  cases o with
  | lst xs => obtain ⟨_, _, _, _, e⟩ := x; exact Heap.lt_size e
  | tup xs => obtain ⟨_, _, _, p⟩ := x; exact p.lt
  | dK kvs => obtain ⟨_, _, _, _, o, _, _, e, _⟩ := x; exact Heap.lt_size e
  | dT kvs => obtain ⟨_, _, _, _, o, _, _, e, _⟩ := x; exact Heap.lt_size e
  | set S n => obtain ⟨o, _, _, _, e, _⟩ := x; exact Heap.lt_size e
  | ins C dx fs => obtain ⟨_, _, _, e, _⟩ := x; exact Heap.lt_size e
  | own y => obtain ⟨_, e⟩ := x; exact Heap.lt_size e
  | xd fs => obtain ⟨_, ⟨_, _, _, e, _⟩, _⟩ := x; exact Heap.lt_size e
  | rng lo hi => obtain ⟨_, _, _, e⟩ := x; exact Heap.lt_size e
  | frz ob u => obtain ⟨e, _⟩ := x; exact Heap.lt_size e
  | tbl ps => exact Heap.lt_size (show h.get? a = some _ from x)
  | met f y => exact Heap.lt_size (show h.get? a = some _ from x)
  | ext φ => obtain ⟨_, ⟨_, e⟩, _⟩ := x; exact Heap.lt_size e
theorem Paired.mapP {α β : Type} {F G : α → β → Prop} : ∀ {l₁ : List α} {l₂ : List β}, Paired F l₁ l₂ → (∀ a b, F a b → G a b) → Paired G l₁ l₂
  | _, _, .nil, _ => .nil
  | _, _, .cons r t, f => .cons (f _ _ r) (Paired.mapP t f)
theorem ObjOk.stay (x : ObjOk P w H h a o) (k : ∀ b u, (b = a ∨ H b = some (.own a)) → h.get? b = some u → h'.get? b = some u)
    (ho : ∀ b, H b = some (.own a) → H' b = some (.own a)) (ht : ∀ b xs, H b = some (.tup xs) → H' b = some (.tup xs)) : ObjOk P w H' h' a o := by
  induction o with
  | lst xs => obtain ⟨z, its, n, r, e⟩ := x; exact ⟨z, its, n, r, k _ _ (.inl rfl) e⟩
  | tup xs => obtain ⟨z, its, r, ob, e, c⟩ := x; exact ⟨z, its, r, ob, k _ _ (.inl rfl) e, c⟩
  | dK kvs => obtain ⟨z, y, vs, r, ob, es, ep, e, c⟩ := x; exact ⟨z, y, vs, r, ob, es, ep, k _ _ (.inl rfl) e, c⟩
  | dT kvs =>
    obtain ⟨z, y, xs, r, ob, es, ep, e, c⟩ := x
    exact ⟨z, y, xs, Paired.mapP r fun p q z => ⟨z.1, ht _ _ z.2.1, z.2.2⟩, ob, es, ep, k _ _ (.inl rfl) e, c⟩
  | set S n => obtain ⟨ob, es, ep, t, e, c⟩ := x; exact ⟨ob, es, ep, t, k _ _ (.inl rfl) e, c⟩
  | ins C dx fs =>
    obtain ⟨d, z, ne, e, mA, ⟨od, es, ep, e2, c⟩, r⟩ := x
    exact ⟨ho _ d, z, ne, k _ _ (.inl rfl) e, mA, ⟨od, es, ep, k _ _ (.inr d) e2, c⟩, r⟩
  | own y => obtain ⟨ob, e⟩ := x; exact ⟨ob, k _ _ (.inl rfl) e⟩
  | xd fs => obtain ⟨mA, ⟨od, es, ep, e, c⟩, r⟩ := x; exact ⟨mA, ⟨od, es, ep, k _ _ (.inl rfl) e, c⟩, r⟩
  | rng lo hi => obtain ⟨t, u, v, e⟩ := x; exact ⟨t, u, v, k _ _ (.inl rfl) e⟩
  | frz ob u ih => obtain ⟨e, q⟩ := x; exact ⟨k _ _ (.inl rfl) e, ih q⟩
  | tbl ps =>
    have e : h.get? a = some { cls := .none, data := .fields ps } := x
    show h'.get? a = some { cls := .none, data := .fields ps }
    exact k a _ (.inl rfl) e
  | met f y =>
    have e : h.get? a = some (PySem.W.methodObj (.ref f) (.ref y)) := x
    show h'.get? a = some (PySem.W.methodObj (.ref f) (.ref y))
    exact k a _ (.inl rfl) e
  | ext φ => obtain ⟨p, ⟨o, e⟩, st⟩ := x; exact ⟨st _ _ p fun o q => k _ _ (.inl rfl) q, ⟨o, k _ _ (.inl rfl) e⟩, st⟩
theorem HOk.lt (x : HOk P w H h) (e : H a = some o) : a < h.objs.size := (x a o e).lt
theorem HOk.fresh (x : HOk P w H h) (e : h.objs.size ≤ a) : H a = none := by
  cases q : H a with
  | none => rfl
  | some u => exact absurd (Nat.lt_of_lt_of_le (x.lt q) e) (Nat.lt_irrefl _)
theorem HOk.kept (x : HOk P w H h) (k : ∀ b u, h.get? b = some u → h'.get? b = some u) : HOk P w H h' := fun a o e =>
  (x a o e).stay (fun b u _ q => k b u q) (fun _ q => q) fun _ _ q => q
theorem HOk.laid (x : HOk P w H h) (k : ∀ b u, h.get? b = some u → h'.get? b = some u) (hp : h.objs.size ≤ a) (new : ObjOk P w (upd H a o) h' a o) : HOk P w (upd H a o) h' := fun b u e => by
  have hn := x.fresh hp
  by_cases hb : b = a
  · subst hb; rw [upd_same] at e; cases e; exact new
  · rw [upd_ne hb] at e
    exact (x b u e).stay (fun c v _ q => k c v q) (fun c q => by rw [upd_ne (ne_of_none q hn)]; exact q) fun c xs q => by rw [upd_ne (ne_of_none q hn)]; exact q
end
def Rd (H : Hp) (a : Addr) (u : HO) : Prop := H a = some u ∨ ∃ o, H a = some (.frz o u)
theorem Rd.of {H : Hp} {a : Addr} {u : HO} (h : H a = some u) : Rd H a u := .inl h
theorem Rd.ok {P : Program} {w : World} {H : Hp} {h : Heap} {a : Addr} {u : HO} (r : Rd H a u) (x : HOk P w H h) : ObjOk P w H h a u := by
  rcases r with r | ⟨o, r⟩
  · exact x a u r
  · obtain ⟨_, q⟩ := x a _ r
    exact q
def Mut : Option HO → Prop
  | some (.lst _) => True
  | some (.dK _) => True
  | some (.dT _) => True
  | some (.set _ _) => True
  | some (.ins _ _ _) => True
  | some (.ext _) => True
  | _ => False
section
variable {P : Program} {w : World} {H : Hp} {h h' : Heap} {x e : Addr} {o' : HO}
theorem HOk.write (ok : HOk P w H h) (mu : Mut (H x)) (he : e = x ∨ H e = some (.own x)) (k : ∀ b u, b ≠ e → h.get? b = some u → h'.get? b = some u) (heo : ∃ u, h'.get? e = some u)
    (new : ObjOk P w (upd H x o') h' x o') : HOk P w (upd H x o') h' := fun b u q => by
  have nown : ∀ c y, H c = some (.own y) → c ≠ x := fun c y r z => by subst z; rw [r] at mu; exact mu
  have ntup : ∀ c xs, H c = some (.tup xs) → c ≠ x := fun c xs r z => by subst z; rw [r] at mu; exact mu
  by_cases hb : b = x
  · subst hb; rw [upd_same] at q; cases q; exact new
  · rw [upd_ne hb] at q
    by_cases hbe : b = e
    · have q' : H b = some (.own x) := by
        rcases he with z | z
        · exact absurd (hbe.trans z) hb
        · rw [hbe]; exact z
      rw [q] at q'; cases q'
      obtain ⟨v, hv⟩ := heo
      exact ⟨v, by rw [hbe]; exact hv⟩
    · refine (ok b u q).stay (fun c v hc r => k c v ?_ r) (fun c r => by rw [upd_ne (nown c b r)]; exact r) fun c xs r => by rw [upd_ne (ntup c xs r)]; exact r
      rcases hc with rfl | hc
      · exact hbe
      · rintro rfl
        rcases he with z | z
        · exact nown c b hc z
        · rw [hc] at z; cases z; exact hb rfl
end
structure Un (fs ex : List Addr) (H H' : Hp) (h h' : Heap) : Prop where
  keep : ∀ b o, h.get? b = some o → H b = none → b ∉ fs → b ∉ ex → h'.get? b = some o
  slot : ∀ b o, h.get? b = some o → H b = none → b ∈ fs → b ∉ ex → ∃ sl, h'.get? b = some { o with slots := sl }
  free : ∀ b o, h.get? b = some o → H b = none → b ∉ ex → H' b = none
  there : ∀ b o, h.get? b = some o → b ∉ ex → ∃ o', h'.get? b = some o'
  tups : ∀ b xs, H b = some (.tup xs) → H' b = some (.tup xs)
  frzs : ∀ b o u, H b = some (.frz o u) → H' b = some (.frz o u)
  tbls : ∀ b ps, H b = some (.tbl ps) → ∃ more, H' b = some (.tbl (ps ++ more))
section
variable {fs fs' ex ex' : List Addr} {H H1 H2 : Hp} {h h1 h2 h' : Heap} {a x e : Addr} {o : HO}
theorem Un.any (u : Un fs ex H H1 h h1) {b : Addr} {ob : Obj} (q : h.get? b = some ob) (n : H b = none) (hx : b ∉ ex) : ∃ sl, h1.get? b = some { ob with slots := sl } := by
  by_cases hb : b ∈ fs
  · exact u.slot b ob q n hb hx
  · exact ⟨ob.slots, u.keep b ob q n hb hx⟩
theorem Un.trans (a : Un fs ex H H1 h h1) (b : Un fs ex H1 H2 h1 h2) : Un fs ex H H2 h h2 where
  keep := fun c ob q n hc hx => b.keep c ob (a.keep c ob q n hc hx) (a.free c ob q n hx) hc hx
  slot := fun c ob q n hc hx => by
    obtain ⟨sl, e1⟩ := a.slot c ob q n hc hx
    obtain ⟨sl', e2⟩ := b.slot c _ e1 (a.free c ob q n hx) hc hx
    exact ⟨sl', e2⟩
  free := fun c ob q n hx => by
    obtain ⟨o', e1⟩ := a.there c ob q hx
    exact b.free c o' e1 (a.free c ob q n hx) hx
  there := fun c ob q hx => by
    obtain ⟨o', e1⟩ := a.there c ob q hx
    exact b.there c o' e1 hx
  tups := fun c xs q => b.tups c xs (a.tups c xs q)
  frzs := fun c ob xs q => b.frzs c ob xs (a.frzs c ob xs q)
  tbls := fun c ps q => by
    obtain ⟨m1, e1⟩ := a.tbls c ps q
    obtain ⟨m2, e2⟩ := b.tbls c _ e1
    exact ⟨m1 ++ m2, by rw [e2, Array.append_assoc]⟩
theorem Un.kept (k : ∀ b u, h.get? b = some u → h'.get? b = some u) : Un fs ex H H h h' :=
  ⟨fun b ob q _ _ _ => k b ob q, fun b ob q _ _ _ => ⟨ob.slots, k b ob q⟩, fun _ _ _ n _ => n, fun b ob q _ => ⟨ob, k b ob q⟩, fun _ _ q => q, fun _ _ _ q => q, fun _ ps q => ⟨#[], by rw [q]; simp⟩⟩
theorem Un.refl : Un fs ex H H h h := Un.kept fun _ _ q => q
theorem Un.laid (k : ∀ b u, h.get? b = some u → h'.get? b = some u) (hp : h.objs.size ≤ a) (hn : H a = none) : Un fs ex H (upd H a o) h h' where
  keep := fun b u q _ _ _ => k b u q
  slot := fun b u q _ _ _ => ⟨u.slots, k b u q⟩
  free := fun b u q n _ => by rw [upd_ne (Nat.ne_of_lt (Nat.lt_of_lt_of_le (Heap.lt_size q) hp))]; exact n
  there := fun b u q _ => ⟨u, k b u q⟩
  tups := fun b xs q => by rw [upd_ne (ne_of_none q hn)]; exact q
  frzs := fun b u xs q => by rw [upd_ne (ne_of_none q hn)]; exact q
  tbls := fun b ps q => ⟨#[], by rw [upd_ne (ne_of_none q hn), q]; simp⟩
theorem Un.write (mu : Mut (H x)) (he : e = x ∨ H e = some (.own x)) (k : ∀ b u, b ≠ e → h.get? b = some u → h'.get? b = some u) (heo : ∃ u, h'.get? e = some u) : Un fs ex H (upd H x o) h h' := by
  have hx : ∀ b, H b = none → b ≠ x := fun b n z => by subst z; rw [n] at mu; exact mu
  have hb : ∀ b, H b = none → b ≠ e := fun b n z => by
    subst z
    rcases he with r | r
    · exact hx b n r
    · rw [n] at r; cases r
  have hm : ∀ b u, H b = some u → ¬ Mut (some u) → b ≠ x := fun b u q nm z => by subst z; rw [q] at mu; exact nm mu
  refine ⟨fun b u q n _ _ => k b u (hb b n) q, fun b u q n _ _ => ⟨u.slots, k b u (hb b n) q⟩, fun b u q n _ => by rw [upd_ne (hx b n)]; exact n, fun b u q _ => ?_,
    fun b xs q => by rw [upd_ne (hm b _ q fun z => z)]; exact q, fun b u xs q => by rw [upd_ne (hm b _ q fun z => z)]; exact q, fun b ps q => ⟨#[], by rw [upd_ne (hm b _ q fun z => z), q]; simp⟩⟩
  by_cases hbe : b = e
  · subst hbe; exact heo
  · exact ⟨u, k b u hbe q⟩
theorem Un.mono (u : Un fs ex H H1 h h1) (hs : ∀ b ∈ fs, b ∈ fs') (hx : ∀ b ∈ ex, b ∈ ex') : Un fs' ex' H H1 h h1 :=
  ⟨fun b ob q n hb he => u.keep b ob q n (fun z => hb (hs b z)) fun z => he (hx b z), fun _ _ q n _ he => u.any q n fun z => he (hx _ z), fun b ob q n he => u.free b ob q n fun z => he (hx b z), fun b ob q he => u.there b ob q fun z => he (hx b z), u.tups, u.frzs, u.tbls⟩
end
def trk (h : Heap) (H : Hp) : List Addr := (List.range h.objs.size).filter fun a => (H a).isSome
def hidT (h : Heap) (H : Hp) : Heap := PySem.W.hideAll h (trk h H)
theorem hidT_size (h : Heap) (H : Hp) : (hidT h H).objs.size = h.objs.size := PySem.W.hideAll_size _ _
theorem hidT_get {h : Heap} {H : Hp} {b : Addr} {o : Obj} (e : h.get? b = some o) (n : H b = none) : (hidT h H).get? b = some o :=
  PySem.W.hideAll_get _ e fun hm => by
    have q : (H b).isSome = true := (List.mem_filter.mp hm).2
    rw [n] at q; simp at q
theorem of_hidT {h : Heap} {H : Hp} {b : Addr} {o : Obj} (e : (hidT h H).get? b = some o) : h.get? b = some o ∧ H b = none := by
  have e' : h.get? b = some o := PySem.W.of_hideAll (trk h H) e
  refine ⟨e', ?_⟩
  cases q : H b with
  | none => rfl
  | some x =>
    have hm : b ∈ trk h H := List.mem_filter.mpr ⟨List.mem_range.mpr (Heap.lt_size e'), by simp [q]⟩
    have z : (hidT h H).get? b = none := PySem.W.hideAll_none (trk h H) hm
    rw [z] at e; cases e
def allNews (g h : Heap) (L : Addr) : List (Addr × Obj) := (List.range h.objs.size).filterMap fun a => if a = L ∨ (g.get? a).isSome = true then none else (h.get? a).map fun o => (a, o)
def rest (g h : Heap) (L d : Addr) : List (Addr × Obj) := (allNews g h L).filter fun p => decide (p.1 ≠ d)
end L2
namespace L2
open PySem PySem.Spec PyProof.Rows
structure Mod (K : PySem.W.Frag) (mg : Str → Option Value) (base : Heap) : Prop where
  kin : K.In base
  glob : base.Ns mainGlobals mg
  blt : ∃ mb, base.Ns builtinsNs mb ∧ ∀ x : Str, x ≠ "__name__" → mb x = bootBuiltins x
  nolimit : base.NoLimit
structure Cx where
  prog : Program
  w : World
  K : PySem.W.Frag
  mg : Str → Option Value
  base : Heap
  A : Around
  N : List Str
  s₀ : Shared
  H₀ : Hp
  env : Env
  outer : List Env
  stack : List Env
  ex : List Addr
  fn : Str → Bool
  calm : Bool
  pn : List (Addr × Obj)
  xe : Value → Shared → Prop
def frs (l : List Env) : List Addr := l.filterMap (·.frame)
abbrev Cx.fs (X : Cx) : List Addr := frs X.outer
def Vis (sc : Scope) (x : Str) : Prop := sc.names.lookup x = some .local ∨ sc.names.lookup x = some .cell ∨ sc.names.lookup x = some .free
def Loc (sc : Scope) (x : Str) : Prop := sc.names.lookup x = some .local ∨ sc.names.lookup x = some .cell
def Look (env : Env) (h : Heap) (m : Str → Option Value) (x : Str) (u : Value) : Prop :=
  (env.kindOf x = some .local ∧ m x = some u) ∨ ((env.kindOf x = some .cell ∨ env.kindOf x = some .free) ∧ ∃ c, env.cells.lookup x = some c ∧ h.IsCell c (some u))
structure Cx.Ok (X : Cx) : Prop where
  mod : Mod X.K X.mg X.base
  kind : X.env.scope.kind = .function
  glob : X.env.globals = mainGlobals
  blt : X.env.builtins = builtinsNs
  above : X.s₀.heap.objs.size ≤ X.env.locals
  inj : ∀ x y c, X.env.cells.lookup x = some c → X.env.cells.lookup y = some c → x = y
  has : ∀ x, (X.env.kindOf x = some .cell ∨ X.env.kindOf x = some .free) → ∃ c, X.env.cells.lookup x = some c
  cab : ∀ x c, X.fn x = true → X.env.cells.lookup x = some c → X.s₀.heap.objs.size ≤ c
  hd : X.calm = true → X.A.handled = none
  frames : X.A.frames = some X.stack
  stk : X.stack = X.outer ∨ (X.stack = X.env :: X.outer ∧ X.env.frame = some X.env.locals)
  exf : ∀ b ∈ X.ex, b ≠ X.env.locals ∧ ∀ x c, X.env.cells.lookup x = some c → c ≠ b
  bs : ∀ b o, X.base.get? b = some o → X.s₀.heap.get? b = some o ∧ X.H₀ b = none
  bsz : X.base.objs.size ≤ X.s₀.heap.objs.size
  noex : ∀ b o, X.base.get? b = some o → b ∉ X.ex
  exfs : ∀ b ∈ X.ex, b ∉ X.fs
  funs : X.s₀.heap.FunFrames X.base X.outer
  frf : ∀ b ∈ X.fs, X.H₀ b = none
structure Inv (X : Cx) (pins : List (Addr × Obj)) (σ : List (Option V)) (H : Hp) (s : Shared) : Prop where
  ok : X.Ok
  os : s.os = X.s₀.os
  bare : AllBare s.gens
  base : Un X.fs X.ex X.H₀ H X.s₀.heap s.heap
  loc : ∃ m, s.heap.Ns X.env.locals m ∧ ∀ (i : Nat) (x : Str) (v : V), X.N[i]? = some x → σ[i]? = some (some v) → Vis X.env.scope x → ∃ u, RelV v u ∧ Look X.env s.heap m x u
  cell : ∀ x c, X.env.cells.lookup x = some c → ∃ v, s.heap.IsCell c v
  free : H X.env.locals = none
  freeC : ∀ x c, X.env.cells.lookup x = some c → H c = none
  pin : ∀ p ∈ X.pn ++ pins, s.heap.get? p.1 = some p.2 ∧ H p.1 = none ∧ p.1 ≠ X.env.locals ∧ p.1 ∉ X.fs ∧ ∀ v, p.2.data ≠ .cell v
  hok : HOk X.prog X.w H s.heap
  len : σ.length = X.N.length
section
variable {X : Cx} {pins : List (Addr × Obj)} {σ : List (Option V)} {H H' : Hp} {s : Shared} {h' : Heap}
theorem Cx.Ok.nofr (ok : X.Ok) {b : Addr} {o : Obj} (e : X.base.get? b = some o) : b ∉ X.fs := fun hb => by
  have := (ok.funs.mem hb).1
  rw [e] at this; cases this
theorem Inv.bs (I : Inv X pins σ H s) : ∀ b o, X.base.get? b = some o → s.heap.get? b = some o ∧ H b = none := fun b o e =>
  ⟨I.base.keep b o (I.ok.bs b o e).1 (I.ok.bs b o e).2 (I.ok.nofr e) (I.ok.noex b o e), I.base.free b o (I.ok.bs b o e).1 (I.ok.bs b o e).2 (I.ok.noex b o e)⟩
theorem Inv.bk (I : Inv X pins σ H s) : ∀ b o, X.base.get? b = some o → s.heap.get? b = some o := fun b o e => (I.bs b o e).1
theorem Inv.mod (I : Inv X pins σ H s) : Mod X.K X.mg X.base := I.ok.mod
theorem Inv.kIn (I : Inv X pins σ H s) : X.K.In s.heap := I.ok.mod.kin.keeps I.bk
theorem Inv.nolimit (I : Inv X pins σ H s) : s.heap.NoLimit := I.ok.mod.nolimit.keeps I.bk
theorem Inv.fr (I : Inv X pins σ H s) : ∃ m, Fr X.base X.env.locals s.heap m :=
  let ⟨m, hn, _⟩ := I.loc
  ⟨m, hn, I.bk, Nat.le_trans I.ok.bsz I.ok.above⟩
theorem Inv.lt (I : Inv X pins σ H s) : X.env.locals < s.heap.objs.size := let ⟨_, hn, _⟩ := I.loc; hn.lt
theorem Inv.sz (I : Inv X pins σ H s) : X.s₀.heap.objs.size ≤ s.heap.objs.size := Nat.le_trans I.ok.above (Nat.le_of_lt I.lt)
theorem Inv.nofs (I : Inv X pins σ H s) {a : Addr} (h : s.heap.objs.size ≤ a) : a ∉ X.fs := fun hb => by
  obtain ⟨_, o, ho, _⟩ := I.ok.funs.mem hb
  exact absurd (Nat.lt_of_lt_of_le (Heap.lt_size ho) (Nat.le_trans I.sz h)) (Nat.lt_irrefl _)
theorem Inv.cne (I : Inv X pins σ H s) : ∀ x c, X.env.cells.lookup x = some c → c ≠ X.env.locals := fun x c e z => by
  obtain ⟨v, o, ho, hd⟩ := I.cell x c e
  obtain ⟨m, ⟨o', es, ep, ho', hd', _⟩, _⟩ := I.loc
  rw [z, ho'] at ho; cases ho; rw [hd'] at hd; cases hd
theorem Inv.funs (I : Inv X pins σ H s) : s.heap.FunFrames X.base X.outer := by
  have all : ∀ (l : List Env), (∀ b ∈ frs l, b ∈ X.fs) → X.s₀.heap.FunFrames X.base l → s.heap.FunFrames X.base l := by
    intro l
    induction l with
    | nil => intro _ _; trivial
    | cons env r ih =>
      intro hs hl
      obtain ⟨hk, ⟨L, o, hf, hn, ho, hd⟩, hr⟩ := hl
      have hL : L ∈ X.fs := hs L (by unfold frs; rw [List.filterMap_cons, hf]; exact List.mem_cons_self)
      obtain ⟨sl, e⟩ := I.base.slot L o ho (I.ok.frf L hL) hL fun z => I.ok.exfs L z hL
      exact ⟨hk, ⟨L, _, hf, hn, e, hd⟩, ih (fun b hb => hs b (by unfold frs; rw [List.filterMap_cons, hf]; exact List.mem_cons_of_mem _ hb)) hr⟩
  exact all X.outer (fun _ hb => hb) I.ok.funs
theorem Inv.stack (I : Inv X pins σ H s) : s.heap.FunFrames X.base X.stack := by
  rcases I.ok.stk with e | ⟨e, hf⟩
  · rw [e]; exact I.funs
  · rw [e]
    obtain ⟨m, hn, _⟩ := I.loc
    refine .cons (by rw [I.ok.kind]; decide) hf hn ?_ I.funs
    exact Heap.get?_none_of_le (Nat.le_trans I.ok.bsz I.ok.above)
theorem Inv.stkSub (I : Inv X pins σ H s) : ∀ b ∈ frs X.stack, b ∈ X.env.locals :: X.fs := fun b hb => by
  rcases I.ok.stk with e | ⟨e, hf⟩
  · rw [e] at hb; exact List.mem_cons_of_mem _ hb
  · rw [e] at hb
    unfold frs at hb
    rw [List.filterMap_cons, hf] at hb
    exact hb
theorem Inv.stkFree (I : Inv X pins σ H s) : ∀ b ∈ frs X.stack, H b = none := fun b hb => by
  rcases List.mem_cons.mp (I.stkSub b hb) with e | hb
  · rw [e]; exact I.free
  · obtain ⟨_, o, ho, _⟩ := I.ok.funs.mem hb
    exact I.base.free b o ho (I.ok.frf b hb) fun z => I.ok.exfs b z hb
theorem Inv.step {g' : Array GenState} {t' : Nat} {d' : Drawn} {ch : List Addr} (I : Inv X pins σ H s)
    (hch : ∀ b ∈ ch, (b ∈ X.ex ∨ X.s₀.heap.objs.size ≤ b) ∧ b ≠ X.env.locals ∧ (∀ x c, X.env.cells.lookup x = some c → c ≠ b) ∧ ∀ p ∈ X.pn ++ pins, p.1 ≠ b)
    (keep : ∀ b o, b ≠ X.env.locals → b ∉ X.fs → b ∉ ch → s.heap.get? b = some o → H b = none → h'.get? b = some o)
    (slot : ∀ b o, b ≠ X.env.locals → b ∈ X.fs → b ∉ ch → s.heap.get? b = some o → H b = none → ∃ sl, h'.get? b = some { o with slots := sl }) (free : ∀ b o, b ∉ ch → s.heap.get? b = some o → H b = none → H' b = none)
    (there : ∀ b o, b ∉ ch → s.heap.get? b = some o → ∃ o', h'.get? b = some o')
    (tups : ∀ b xs, H b = some (.tup xs) → H' b = some (.tup xs)) (frzs : ∀ b o u, H b = some (.frz o u) → H' b = some (.frz o u)) (tbls : ∀ b ps, H b = some (.tbl ps) → ∃ more, H' b = some (.tbl (ps ++ more)))
    (ns : ∀ m, s.heap.Ns X.env.locals m → h'.Ns X.env.locals m) (hok : HOk X.prog X.w H' h') (hg : AllBare g') :
    Inv X pins σ H' { s with heap := h', gens := g', drawn := d', toks := t' } := by
  have neL : ∀ b o, X.s₀.heap.get? b = some o → b ≠ X.env.locals := fun b o e => Nat.ne_of_lt (Nat.lt_of_lt_of_le (Heap.lt_size e) I.ok.above)
  have neC : ∀ b o, X.s₀.heap.get? b = some o → b ∉ X.ex → b ∉ ch := fun b o e hx hb => by
    rcases (hch b hb).1 with z | z
    · exact hx z
    · exact absurd (Nat.lt_of_lt_of_le (Heap.lt_size e) z) (Nat.lt_irrefl _)
  have cellK : ∀ x c, X.env.cells.lookup x = some c → ∀ v, s.heap.IsCell c v → h'.IsCell c v := fun x c e v ⟨o, ho, hd⟩ => by
    have nch : c ∉ ch := fun z => (hch c z).2.2.1 x c e rfl
    by_cases hc : c ∈ X.fs
    · obtain ⟨sl, q⟩ := slot c o (I.cne x c e) hc nch ho (I.freeC x c e)
      exact ⟨_, q, hd⟩
    · exact ⟨o, keep c o (I.cne x c e) hc nch ho (I.freeC x c e), hd⟩
  refine ⟨I.ok, I.os, hg, ⟨fun b o e n hb hx => ?_, fun b o e n hb hx => ?_, fun b o e n hx => ?_, fun b o e hx => ?_, fun b xs e => tups b xs (I.base.tups b xs e), fun b o xs e => frzs b o xs (I.base.frzs b o xs e), fun b ps e => ?_⟩, ?_, fun x c e => ?_, ?_, fun x c e => ?_, fun p hp => ?_, hok, I.len⟩
  · exact keep b o (neL b o e) hb (neC b o e hx) (I.base.keep b o e n hb hx) (I.base.free b o e n hx)
  · obtain ⟨sl, e1⟩ := I.base.slot b o e n hb hx
    obtain ⟨sl', e2⟩ := slot b _ (neL b o e) hb (neC b o e hx) e1 (I.base.free b o e n hx)
    exact ⟨sl', e2⟩
  · obtain ⟨o', e1⟩ := I.base.there b o e hx
    exact free b o' (neC b o e hx) e1 (I.base.free b o e n hx)
  · obtain ⟨o', e1⟩ := I.base.there b o e hx
    exact there b o' (neC b o e hx) e1
  · obtain ⟨m1, e1⟩ := I.base.tbls b ps e
    obtain ⟨m2, e2⟩ := tbls b _ e1
    exact ⟨m1 ++ m2, by rw [e2, Array.append_assoc]⟩
  · obtain ⟨m, hn, hl⟩ := I.loc
    refine ⟨m, ns m hn, fun i x v e1 e2 e3 => ?_⟩
    obtain ⟨u, r, l⟩ := hl i x v e1 e2 e3
    refine ⟨u, r, ?_⟩
    rcases l with l | ⟨k, c, e, z⟩
    · exact .inl l
    · exact .inr ⟨k, c, e, cellK x c e _ z⟩
  · obtain ⟨v, z⟩ := I.cell x c e
    exact ⟨v, cellK x c e v z⟩
  · obtain ⟨m, ⟨o, _, _, ho, _⟩, _⟩ := I.loc
    exact free _ o (fun z => (hch _ z).2.1 rfl) ho I.free
  · obtain ⟨v, o, ho, hd⟩ := I.cell x c e
    exact free c o (fun z => (hch c z).2.2.1 x c e rfl) ho (I.freeC x c e)
  · obtain ⟨e, n, ne, nf, d⟩ := I.pin p hp
    have nch : p.1 ∉ ch := fun z => (hch p.1 z).2.2.2 p hp rfl
    exact ⟨keep p.1 p.2 ne nf nch e n, free p.1 p.2 nch e n, ne, nf, d⟩
theorem Inv.un {t' : Nat} (I : Inv X pins σ H s) (u : Un X.fs [] H H' s.heap h') (hok : HOk X.prog X.w H' h') : Inv X pins σ H' { s with heap := h', toks := t' } := by
  obtain ⟨m, ⟨o, es, ep, ho, r⟩, _⟩ := id I.loc
  obtain ⟨sl, hL⟩ := u.any ho I.free (by simp)
  exact I.step (g' := s.gens) (d' := s.drawn) (ch := []) (fun _ z => nomatch z) (fun b o _ hb _ e n => u.keep b o e n hb (by simp)) (fun b o _ hb _ e n => u.slot b o e n hb (by simp)) (fun b o _ e n => u.free b o e n (by simp)) (fun b o _ e => u.there b o e (by simp)) u.tups u.frzs u.tbls (fun m' hm => by
    obtain ⟨o', es', ep', ho', r'⟩ := hm
    rw [ho] at ho'; cases ho'
    exact ⟨_, es', ep', hL, r'⟩) hok I.bare
theorem Inv.call {g' : Array GenState} {t' : Nat} {d' : Drawn} {ch : List Addr} (I : Inv X pins σ H s) (u : Un (frs X.stack) ch H H' s.heap h') (hok : HOk X.prog X.w H' h') (hg : AllBare g')
    (hch : ∀ b ∈ ch, (b ∈ X.ex ∨ X.s₀.heap.objs.size ≤ b) ∧ b ≠ X.env.locals ∧ (∀ x c, X.env.cells.lookup x = some c → c ≠ b) ∧ ∀ p ∈ X.pn ++ pins, p.1 ≠ b) :
    Inv X pins σ H' { s with heap := h', gens := g', drawn := d', toks := t' } := by
  obtain ⟨m, ⟨o, es, ep, ho, r⟩, _⟩ := id I.loc
  obtain ⟨sl, hL⟩ := u.any ho I.free fun z => (hch _ z).2.1 rfl
  exact I.step (ch := ch) hch (fun b o hL hb hc e n => u.keep b o e n (fun z => (List.mem_cons.mp (I.stkSub b z)).elim hL hb) hc) (fun b o _ _ hc e n => u.any e n hc) (fun b o hc e n => u.free b o e n hc) (fun b o hc e => u.there b o e hc) u.tups u.frzs u.tbls (fun m' hm => by
    obtain ⟨o', es', ep', ho', r'⟩ := hm
    rw [ho] at ho'; cases ho'
    exact ⟨_, es', ep', hL, r'⟩) hok hg
theorem Inv.turned {t' : Nat} {it : Addr} (I : Inv X pins σ H s) (k : ∀ b o, b ≠ it → s.heap.get? b = some o → h'.get? b = some o) (hn : H it = none) (hL : it ≠ X.env.locals)
    (h1 : it ∈ X.ex ∨ X.s₀.heap.objs.size ≤ it) (h2 : ∀ x c, X.env.cells.lookup x = some c → c ≠ it) (h3 : ∀ p ∈ X.pn ++ pins, p.1 ≠ it) : Inv X pins σ H { s with heap := h', toks := t' } := by
  have nit : ∀ b u, H b = some u → b ≠ it := fun b u e z => by rw [z, hn] at e; cases e
  refine I.step (g' := s.gens) (d' := s.drawn) (ch := [it]) (fun b hb => ?_) (fun b o _ _ hc e _ => k b o (fun z => hc (by simp [z])) e) (fun b o _ _ hc e _ => ⟨o.slots, k b o (fun z => hc (by simp [z])) e⟩) (fun _ _ _ _ n => n)
    (fun b o hc e => ⟨o, k b o (fun z => hc (by simp [z])) e⟩) (fun _ _ e => e) (fun _ _ _ e => e) (fun b ps e => ⟨#[], by rw [e]; simp⟩) (fun m hm => ?_) (fun b u e => ?_) I.bare
  · have e : b = it := by simpa using hb
    subst e
    exact ⟨h1, hL, h2, h3⟩
  · obtain ⟨o, es, ep, ho, r⟩ := hm
    exact ⟨o, es, ep, k _ o (Ne.symm hL) ho, r⟩
  · refine (I.hok b u e).stay (fun c v hc q => k c v ?_ q) (fun _ q => q) fun _ _ q => q
    rcases hc with z | z
    · rw [z]; exact nit b u e
    · exact nit c _ z
theorem Inv.tok (I : Inv X pins σ H s) (t : Nat) : Inv X pins σ H { s with toks := t } := I.un (h' := s.heap) (t' := t) Un.refl I.hok
theorem Inv.kept {t' : Nat} (I : Inv X pins σ H s) (k : ∀ b u, s.heap.get? b = some u → h'.get? b = some u) : Inv X pins σ H { s with heap := h', toks := t' } := I.un (Un.kept k) (I.hok.kept k)
theorem Inv.laid {a : Addr} {o : HO} {t' : Nat} (I : Inv X pins σ H s) (k : ∀ b u, s.heap.get? b = some u → h'.get? b = some u) (hp : s.heap.objs.size ≤ a) (new : ObjOk X.prog X.w (upd H a o) h' a o) :
    Inv X pins σ (upd H a o) { s with heap := h', toks := t' } := I.un (Un.laid k hp (I.hok.fresh hp)) (I.hok.laid k hp new)
theorem Inv.write {x e : Addr} {o : HO} {t' : Nat} (I : Inv X pins σ H s) (mu : Mut (H x)) (he : e = x ∨ H e = some (.own x)) (k : ∀ b u, b ≠ e → s.heap.get? b = some u → h'.get? b = some u) (heo : ∃ u, h'.get? e = some u)
    (new : ObjOk X.prog X.w (upd H x o) h' x o) : Inv X pins σ (upd H x o) { s with heap := h', toks := t' } := I.un (Un.write mu he k heo) (I.hok.write mu he k heo new)
theorem Inv.weak {σ' : List (Option V)} (I : Inv X pins σ H s) (hl : σ'.length = σ.length) (w : ∀ (i : Nat) v, σ'[i]? = some (some v) → σ[i]? = some (some v)) : Inv X pins σ' H s :=
  ⟨I.ok, I.os, I.bare, I.base, let ⟨m, hn, hl'⟩ := I.loc; ⟨m, hn, fun i x v e1 e2 e3 => hl' i x v e1 (w i v e2) e3⟩, I.cell, I.free, I.freeC, I.pin, I.hok, hl.trans I.len⟩
theorem Inv.pins_of {pins' : List (Addr × Obj)} (I : Inv X pins σ H s) (h : ∀ p ∈ pins', s.heap.get? p.1 = some p.2 ∧ H p.1 = none ∧ p.1 ≠ X.env.locals ∧ p.1 ∉ X.fs ∧ ∀ v, p.2.data ≠ .cell v) : Inv X pins' σ H s :=
  ⟨I.ok, I.os, I.bare, I.base, I.loc, I.cell, I.free, I.freeC, fun p hp => (List.mem_append.mp hp).elim (fun z => I.pin p (List.mem_append_left _ z)) (h p), I.hok, I.len⟩
theorem nodup_ix {N : List Str} (hN : N.Nodup) {i j : Nat} {x : Str} (a : N[i]? = some x) (b : N[j]? = some x) : i = j := by
  obtain ⟨h1, e1⟩ := List.getElem?_eq_some_iff.mp a
  obtain ⟨h2, e2⟩ := List.getElem?_eq_some_iff.mp b
  exact (List.getElem_inj hN).mp (e1.trans e2.symm)
theorem store_ok2 {M : Model} {A : Around} {E : Value → Shared → Prop} {i : Nat} {x : Str} {v : V} {u : Value} {Q : Unit → Shared → Prop} (I : Inv X pins σ H s) (hN : X.N.Nodup) (hi : X.N[i]? = some x) (hx : Loc X.env.scope x) (r : RelV v u)
    (h : ∀ s', Inv X pins (σ.set i (some v)) H s' → (∃ a, Heap.SameBut a s.heap s'.heap ∧ (a = X.env.locals ∨ X.env.cells.lookup x = some a)) → Q () s') (hf : X.fn x = true ∨ X.env.scope.names.lookup x = some .local := by first | exact .inl rfl | exact .inr rfl | assumption) : wpAny M A (storeName X.env x u) Q E s := by
  obtain ⟨m, hn, hl⟩ := id I.loc
  have hcls : (X.env.scope.kind == .class || (X.env.scope.kind == .module && X.env.locals != X.env.globals)) = false := by rw [I.ok.kind]; rfl
  have hiσ : i < σ.length := by rw [I.len]; exact (List.getElem?_eq_some_iff.mp hi).1
  have cne := I.cne
  have tracked : ∀ {a : Addr} {h' : Heap}, (∃ o, s.heap.get? a = some o ∧ H a = none) → Heap.SameBut a s.heap h' → HOk X.prog X.w H h' := fun {a h'} ha hs b ob e => by
    obtain ⟨_, _, hfree⟩ := ha
    refine (I.hok b ob e).stay (fun c w' hc q => (hs.2 c ?_).trans q) (fun _ q => q) fun _ _ q => q
    rintro rfl
    rcases hc with rfl | hc
    · rw [hfree] at e; cases e
    · rw [hfree] at hc; cases hc
  rcases hx with hk | hk
  · refine wpAny_storeName_local hk hn (fun h' hn' hs => ?_) hcls
    obtain ⟨oL, _, _, hoL, _⟩ := id hn
    refine h _ ⟨I.ok, I.os, I.bare, ⟨fun b o e n hb hx => ?_, fun b o e n hb hx => ?_, I.base.free, fun b o e hx => ?_, I.base.tups, I.base.frzs, I.base.tbls⟩, ⟨_, hn', fun j y v' e1 e2 e3 => ?_⟩, fun y c e => ?_, I.free, I.freeC, fun p hp => ?_, tracked ⟨oL, hoL, I.free⟩ hs, by simpa using I.len⟩ ⟨_, hs, .inl rfl⟩
    · exact (hs.2 b (Nat.ne_of_lt (Nat.lt_of_lt_of_le (Heap.lt_size e) I.ok.above))).trans (I.base.keep b o e n hb hx)
    · obtain ⟨sl, e1⟩ := I.base.slot b o e n hb hx
      exact ⟨sl, (hs.2 b (Nat.ne_of_lt (Nat.lt_of_lt_of_le (Heap.lt_size e) I.ok.above))).trans e1⟩
    · obtain ⟨o', e1⟩ := I.base.there b o e hx
      exact ⟨o', (hs.2 b (Nat.ne_of_lt (Nat.lt_of_lt_of_le (Heap.lt_size e) I.ok.above))).trans e1⟩
    · by_cases hj : j = i
      · subst hj
        rw [hi] at e1; cases e1
        rw [List.getElem?_set_self hiσ] at e2
        cases e2
        exact ⟨u, r, .inl ⟨hk, by simp⟩⟩
      · rw [List.getElem?_set_ne (Ne.symm hj)] at e2
        obtain ⟨u', r', q⟩ := hl j y v' e1 e2 e3
        refine ⟨u', r', ?_⟩
        rcases q with ⟨k, e⟩ | ⟨k, c, e, z⟩
        · refine .inl ⟨k, ?_⟩
          have : y ≠ x := fun e => hj (nodup_ix hN e1 (e ▸ hi))
          simp [this, e]
        · exact .inr ⟨k, c, e, z.sameBut hs (cne y c e)⟩
    · obtain ⟨w', z⟩ := I.cell y c e
      exact ⟨w', z.sameBut hs (cne y c e)⟩
    · obtain ⟨e, n, ne, nf, d⟩ := I.pin p hp
      exact ⟨(hs.2 p.1 ne).trans e, n, ne, nf, d⟩
  · have hfn : X.fn x = true := by
      rcases hf with z | z
      · exact z
      · rw [z] at hk; cases hk
    obtain ⟨c, hc⟩ := I.ok.has x (.inl hk)
    obtain ⟨w', z⟩ := I.cell x c hc
    refine wpAny_storeName_cell I.ok.kind hk hc z (fun h' hc' hs => ?_)
    obtain ⟨oc, hoc, hocd⟩ := id z
    refine h { s with heap := h' } ⟨I.ok, I.os, I.bare, ⟨fun b o e n hb hx => ?_, fun b o e n hb hx => ?_, I.base.free, fun b o e hx => ?_, I.base.tups, I.base.frzs, I.base.tbls⟩, ⟨m, hn.sameBut hs (Ne.symm (cne x c hc)), fun j y v' e1 e2 e3 => ?_⟩, fun y c' e => ?_, I.free, I.freeC, fun p hp => ?_, tracked ⟨oc, hoc, I.freeC x c hc⟩ hs, by simpa using I.len⟩ ⟨c, hs, .inr hc⟩
    · exact (hs.2 b (Nat.ne_of_lt (Nat.lt_of_lt_of_le (Heap.lt_size e) (I.ok.cab x c hfn hc)))).trans (I.base.keep b o e n hb hx)
    · obtain ⟨sl, e1⟩ := I.base.slot b o e n hb hx
      exact ⟨sl, (hs.2 b (Nat.ne_of_lt (Nat.lt_of_lt_of_le (Heap.lt_size e) (I.ok.cab x c hfn hc)))).trans e1⟩
    · obtain ⟨o', e1⟩ := I.base.there b o e hx
      exact ⟨o', (hs.2 b (Nat.ne_of_lt (Nat.lt_of_lt_of_le (Heap.lt_size e) (I.ok.cab x c hfn hc)))).trans e1⟩
    · by_cases hj : j = i
      · subst hj
        rw [hi] at e1; cases e1
        rw [List.getElem?_set_self hiσ] at e2
        cases e2
        exact ⟨u, r, .inr ⟨.inl hk, c, hc, hc'⟩⟩
      · rw [List.getElem?_set_ne (Ne.symm hj)] at e2
        obtain ⟨u', r', q⟩ := hl j y v' e1 e2 e3
        refine ⟨u', r', ?_⟩
        rcases q with q | ⟨k, c', e, z'⟩
        · exact .inl q
        · refine .inr ⟨k, c', e, z'.sameBut hs ?_⟩
          rintro rfl
          exact hj (nodup_ix hN e1 (I.ok.inj _ _ _ e hc ▸ hi))
    · by_cases hcc : c' = c
      · subst hcc; exact ⟨_, hc'⟩
      · obtain ⟨w2, z2⟩ := I.cell y c' e
        exact ⟨w2, z2.sameBut hs hcc⟩
    · obtain ⟨e, n, ne, nf, d⟩ := I.pin p hp
      refine ⟨(hs.2 p.1 ?_).trans e, n, ne, nf, d⟩
      intro q
      rw [q, hoc] at e
      have q' : oc = p.2 := Option.some.inj e
      exact d w' (by rw [← q']; exact hocd)
theorem store_ok {M : Model} {A : Around} {E : Value → Shared → Prop} {i : Nat} {x : Str} {v : V} {u : Value} {Q : Unit → Shared → Prop} (I : Inv X pins σ H s) (hN : X.N.Nodup) (hi : X.N[i]? = some x) (hx : Loc X.env.scope x) (r : RelV v u)
    (h : ∀ s', Inv X pins (σ.set i (some v)) H s' → Q () s') (hf : X.fn x = true ∨ X.env.scope.names.lookup x = some .local := by first | exact .inl rfl | exact .inr rfl | assumption) : wpAny M A (storeName X.env x u) Q E s :=
  store_ok2 I hN hi hx r (fun s' I' _ => h s' I') hf
theorem Inv.call' {s' : Shared} {ch : List Addr} (I : Inv X pins σ H s) (ho : s'.os = s.os) (u : Un (frs X.stack) ch H H' s.heap s'.heap) (hok : HOk X.prog X.w H' s'.heap) (hg : AllBare s'.gens)
    (hch : ∀ b ∈ ch, (b ∈ X.ex ∨ X.s₀.heap.objs.size ≤ b) ∧ b ≠ X.env.locals ∧ (∀ x c, X.env.cells.lookup x = some c → c ≠ b) ∧ ∀ p ∈ X.pn ++ pins, p.1 ≠ b) : Inv X pins σ H' s' := by
  obtain ⟨h', g', d', t', o'⟩ := s'
  have e : o' = s.os := ho
  subst e
  exact I.call (g' := g') (t' := t') (d' := d') u hok hg hch
end
abbrev XK := Value → Option Addr → Hp → Prop
abbrev St := List (Option V)
abbrev VK := V → Hp → Prop
abbrev TE := St → Hp → VK → Prop
abbrev TT := St → Hp → (Bool → Hp → Prop) → Prop
abbrev TA := St → Hp → (List V → Hp → Prop) → Prop
structure Ends where
  nx : St → Hp → Prop
  rt : VK
  bk : St → Hp → Prop := fun _ _ => False
  ct : St → Hp → Prop := fun _ _ => False
abbrev TS := Ends → St → Hp → Prop
def EP (X : Cx) (pins : List (Addr × Obj)) (σ : St) (Q : VK) (u : Value) (s' : Shared) : Prop := ∃ v H', Inv X pins σ H' s' ∧ RelV v u ∧ Q v H'
def TP (X : Cx) (pins : List (Addr × Obj)) (σ : St) (Q : Bool → Hp → Prop) (b : Bool) (s' : Shared) : Prop := ∃ H', Inv X pins σ H' s' ∧ Q b H'
def AP (X : Cx) (pins : List (Addr × Obj)) (σ : St) (Q : List V → Hp → Prop) (us : List Value) (s' : Shared) : Prop := ∃ vs H', Inv X pins σ H' s' ∧ Vals vs us ∧ Q vs H'
def SP (X : Cx) (pins : List (Addr × Obj)) (D : Ends) (f : Flow) (s' : Shared) : Prop :=
  match f with
  | .next => ∃ σ' H', Inv X pins σ' H' s' ∧ D.nx σ' H'
  | .brk => ∃ σ' H', Inv X pins σ' H' s' ∧ D.bk σ' H'
  | .cont => ∃ σ' H', Inv X pins σ' H' s' ∧ D.ct σ' H'
  | .ret u => ∃ v σ' H', Inv X pins σ' H' s' ∧ RelV v u ∧ D.rt v H'
def PE (X : Cx) (e : Expr) (t : TE) : Prop :=
  ∀ (pins : List (Addr × Obj)) (s : Shared) (σ : St) (H : Hp) (Q : VK), Inv X pins σ H s → t σ H Q → wpAny (model X.prog X.w) X.A (eval e X.env) (EP X pins σ Q) X.xe s
def PT (X : Cx) (e : Expr) (t : TT) : Prop :=
  ∀ (pins : List (Addr × Obj)) (s : Shared) (σ : St) (H : Hp) (Q : Bool → Hp → Prop), Inv X pins σ H s → t σ H Q → wpAny (model X.prog X.w) X.A (isTrue e X.env (eval e X.env)) (TP X pins σ Q) X.xe s
def PW (X : Cx) (e : Expr) (t : TT) : Prop :=
  ∀ (whole : Sem Value) (pins : List (Addr × Obj)) (s : Shared) (σ : St) (H : Hp) (Q : Bool → Hp → Prop), Inv X pins σ H s → t σ H Q → wpAny (model X.prog X.w) X.A (isTrue e X.env whole) (TP X pins σ Q) X.xe s
theorem PW.pt {X : Cx} {e : Expr} {t : TT} (h : PW X e t) : PT X e t := h _
def PA (X : Cx) (es : List Expr) (t : TA) : Prop :=
  ∀ (pos : Pos) (pins : List (Addr × Obj)) (s : Shared) (σ : St) (H : Hp) (Q : List V → Hp → Prop), Inv X pins σ H s → t σ H Q → wpAny (model X.prog X.w) X.A (spliced (backTo pos (starEach es X.env))) (AP X pins σ Q) X.xe s
def PS (X : Cx) (st : Stmt) (t : TS) : Prop :=
  ∀ (pins : List (Addr × Obj)) (s : Shared) (σ : St) (H : Hp) (D : Ends), Inv X pins σ H s → t D σ H → wpAny (model X.prog X.w) X.A (exec st X.env) (SP X pins D) X.xe s
def PSs (X : Cx) (st : List Stmt) (t : TS) : Prop :=
  ∀ (pins : List (Addr × Obj)) (s : Shared) (σ : St) (H : Hp) (D : Ends), Inv X pins σ H s → t D σ H → wpAny (model X.prog X.w) X.A (execs st X.env) (SP X pins D) X.xe s
theorem thn {α : Type} {t : Sem α} {Q Q' : α → Shared → Prop} {M : Model} {A : Around} {E : Value → Shared → Prop} {s : Shared} (h : wpAny M A t Q E s) (hQ : ∀ a s, Q a s → Q' a s) : wpAny M A t Q' E s := wpAny_mono h hQ fun _ _ x => x
end L2
namespace L2
open PySem PySem.Spec PyProof.Rows
section
variable {X : Cx}
def tVar (i : Nat) : TE := fun σ H Q => ∃ v, σ[i]? = some (some v) ∧ Q v H
def tC (v : V) : TE := fun _ H Q => Q v H
theorem pe_var {i : Nat} {x : Str} {pos : Pos} (hN : X.N[i]? = some x) (hv : Vis X.env.scope x) (hd : (x == ("__debug__" : Str)) = false := by decide) (hcd : (x == ("__classdict__" : Str)) = false := by decide) : PE X (.Name x pos) (tVar i) := by
  intro pins s σ H Q I h
  obtain ⟨v, e, h⟩ := h
  obtain ⟨m, hn, hl⟩ := I.loc
  obtain ⟨u, r, l⟩ := hl i x v hN e hv
  have fin : EP X pins σ Q u s := ⟨v, H, I, r, h⟩
  rcases l with ⟨hk, hm⟩ | ⟨hk, c, hc, hcell⟩
  · exact wpAny_Name (wpAny_loadName_local I.ok.kind hk hn hm fin) hd
  · rcases hk with hk | hk
    · exact wpAny_Name (wpAny_loadName_cell I.ok.kind hk hc hcell fin) hd
    · exact wpAny_Name (wpAny_loadName_free I.ok.kind hk hc hcell fin hcd) hd
theorem pe_int {i j pos} : PE X (.Constant (.int i) j pos) (tC (.int i)) := fun _ _ _ H _ I h => wpAny_Constant_int ⟨.int i, H, I.tok _, ⟨_, rfl⟩, h⟩
theorem pe_bl {b j pos} : PE X (.Constant (.bool b) j pos) (tC (.bl b)) := fun _ _ _ H _ I h => Constant_bool ⟨.bl b, H, I, rfl, h⟩
theorem pe_non {j pos} : PE X (.Constant .none j pos) (tC .non) := fun _ _ _ H _ I h => Constant_none ⟨.non, H, I, rfl, h⟩
theorem pe_str {x j pos} : PE X (.Constant (.str x) j pos) (tC (.str x)) := fun _ _ _ H _ I h => Calls.Constant_str ⟨.str x, H, I.tok _, ⟨_, rfl⟩, h⟩
def Gl (X : Cx) (x : Str) : Prop := X.env.kindOf x = some .globalImplicit
theorem ld_glob {E : Value → Shared → Prop} {pins : List (Addr × Obj)} {s : Shared} {σ : St} {H : Hp} {x : Str} {u : Value} {pos : Pos} {Q : Value → Shared → Prop} (I : Inv X pins σ H s) (hg : Gl X x) (hm : X.mg x = some u) (h : Q u s)
    (hd : (x == ("__debug__" : Str)) = false := by decide) : wpAny (model X.prog X.w) X.A (eval (.Name x pos) X.env) Q E s :=
  Calls.Name_function_global I.ok.kind hg (Calls.loadGlobal_global (by rw [I.ok.glob]; exact I.mod.glob.keeps I.bk) hm h) hd
theorem ld_blt {E : Value → Shared → Prop} {pins : List (Addr × Obj)} {s : Shared} {σ : St} {H : Hp} {x : Str} {u : Value} {pos : Pos} {Q : Value → Shared → Prop} (I : Inv X pins σ H s) (hg : Gl X x) (hm : X.mg x = none) (hv : bootBuiltins x = some u) (h : Q u s)
    (hn : x ≠ "__name__" := by decide) (hd : (x == ("__debug__" : Str)) = false := by decide) : wpAny (model X.prog X.w) X.A (eval (.Name x pos) X.env) Q E s := by
  obtain ⟨mb, h1, h2⟩ := I.mod.blt
  exact Calls.Name_function_global I.ok.kind hg (Calls.loadGlobal_builtin (by rw [I.ok.glob]; exact I.mod.glob.keeps I.bk) hm (by rw [I.ok.blt]; exact h1.keeps I.bk) ((h2 x hn).trans hv) h) hd
theorem pe_glob {x : Str} {v : V} {u : Value} {pos : Pos} (hg : Gl X x) (hm : X.mg x = some u) (r : RelV v u) (hd : (x == ("__debug__" : Str)) = false := by decide) : PE X (.Name x pos) (tC v) :=
  fun _ _ _ H _ I h => ld_glob I hg hm ⟨v, H, I, r, h⟩ hd
theorem pe_bltn {x : Str} {v : V} {u : Value} {pos : Pos} (hg : Gl X x) (hm : X.mg x = none) (hv : bootBuiltins x = some u) (r : RelV v u) (hn : x ≠ "__name__" := by decide) (hd : (x == ("__debug__" : Str)) = false := by decide) : PE X (.Name x pos) (tC v) :=
  fun _ _ _ H _ I h => ld_blt I hg hm hv ⟨v, H, I, r, h⟩ hn hd
variable {a b : Expr} {ta tb : TE} {pos : Pos}
def PC (X : Cx) (op : CmpOp) (a b : Expr) (t : TE) : Prop :=
  ∀ (pins : List (Addr × Obj)) (s : Shared) (σ : St) (H : Hp) (Q : VK), Inv X pins σ H s → t σ H Q →
    wpAny (model X.prog X.w) X.A (eval a X.env) (fun v s₁ => wpAny (model X.prog X.w) X.A (eval b X.env) (fun u s₂ => wpAny (model X.prog X.w) X.A (compareOp op v u) (EP X pins σ Q) X.xe s₂) X.xe s₁) X.xe s
theorem nobehind (b : Expr) {op : CmpOp} (h : op ≠ .In) (h2 : op ≠ .NotIn) : behindInMarks op b = false := by
  have e1 : (op == CmpOp.In) = false := by cases op <;> first | rfl | exact absurd rfl h
  have e2 : (op == CmpOp.NotIn) = false := by cases op <;> first | rfl | exact absurd rfl h2
  cases b <;> simp [behindInMarks, e1, e2]
def tIsN (ta : TE) : TE := fun σ H Q => ta σ H fun x H1 => Q (.bl (decide (x = .non))) H1
def tNotN (ta : TE) : TE := fun σ H Q => ta σ H fun x H1 => Q (.bl (!decide (x = .non))) H1
theorem RelV.none_iff {x : V} {v : Value} (r : RelV x v) : (v == Value.none) = decide (x = .non) := by
  cases x with
  | non => cases r; rfl
  | bl _ => cases r; rfl
  | int _ => obtain ⟨t, rfl⟩ := r; rfl
  | str _ => obtain ⟨t, rfl⟩ := r; rfl
  | byt _ => obtain ⟨t, rfl⟩ := r; rfl
  | flt _ => obtain ⟨t, rfl⟩ := r; rfl
  | ref _ => cases r; rfl
  | ty _ => cases r; rfl
theorem pc_isN {j pos'} (ha : PE X a ta) : PC X .Is a (.Constant .none j pos') (tIsN ta) := by
  intro pins s σ H Q I h
  refine thn (ha pins s σ H _ I h) fun v s1 ⟨x, H1, I1, r1, q1⟩ => ?_
  exact Constant_none (is_none_gen ⟨.bl _, H1, I1, by rw [r1.none_iff]; rfl, q1⟩)
theorem pc_notN {j pos'} (ha : PE X a ta) : PC X .IsNot a (.Constant .none j pos') (tNotN ta) := by
  intro pins s σ H Q I h
  refine thn (ha pins s σ H _ I h) fun v s1 ⟨x, H1, I1, r1, q1⟩ => ?_
  exact Constant_none (isnot_none_gen ⟨.bl _, H1, I1, by rw [r1.none_iff]; rfl, q1⟩)
def tB (t : TE) : TT := fun σ H Q => t σ H fun x H1 => ∃ c, x = .bl c ∧ Q c H1
theorem pe_cmp {op : CmpOp} {t : TE} (h : PC X op a b t) (h1 : behindInMarks op b = false := by first | exact nobehind _ (by decide) (by decide) | rfl) : PE X (.Compare a [op] [b] pos) t := fun pins s σ H Q I hw => wpAny_Compare1 (h pins s σ H Q I hw) h1
theorem pt_cmp {op : CmpOp} {t : TE} (h : PC X op a b t) (h1 : behindInMarks op b = false := by first | exact nobehind _ (by decide) (by decide) | rfl) : PT X (.Compare a [op] [b] pos) (tB t) := by
  intro pins s σ H Q I hw
  refine wpAny_isTrue_Compare1 (thn (h pins s σ H _ I hw) fun v s1 h1 => thn h1 fun u s2 h2 => thn h2 fun c s3 ⟨x, H1, I1, r1, q1⟩ => ?_) h1
  obtain ⟨d, rfl, q⟩ := q1
  cases r1
  exact wpAny_truthy_bool ⟨H1, I1, q⟩
theorem pt_val {e : Expr} {t : TE} (h : PE X e t) (he : ∀ whole, isTrue e X.env whole = (do let v ← whole; standAt e.pos; holding [v] (truthy v)) := by intro _; rfl) : PT X e (tB t) := by
  intro pins s σ H Q I hw
  refine isTrue_plain (thn (h pins s σ H _ I hw) fun v s1 ⟨x, H1, I1, r1, q1⟩ => ?_) (he _)
  obtain ⟨d, rfl, q⟩ := q1
  cases r1
  exact wpAny_truthy_bool ⟨H1, I1, q⟩
variable {tA tB' : TT} {rest : List Expr}
def tAnd (t u : TT) : TT := fun σ H Q => t σ H fun c H1 => if c = true then u σ H1 Q else Q false H1
def tOr (t u : TT) : TT := fun σ H Q => t σ H fun c H1 => if c = true then Q true H1 else u σ H1 Q
def tNot (t : TT) : TT := fun σ H Q => t σ H fun c H1 => Q (!c) H1
theorem pw_and1 (ha : PT X a tA) : PW X (.BoolOp .And [a] pos) tA := by
  intro wh pins s σ H Q I h
  refine isTrue_and (thn (ha pins s σ H Q I h) fun c s1 e => ?_)
  cases c with
  | true => exact isTrue_and_nil e
  | false => exact e
theorem pw_or1 (ha : PT X a tA) : PW X (.BoolOp .Or [a] pos) tA := by
  intro wh pins s σ H Q I h
  refine isTrue_or (thn (ha pins s σ H Q I h) fun c s1 e => ?_)
  cases c with
  | false => exact isTrue_or_nil e
  | true => exact e
theorem pw_and (ha : PT X a tA) (hb : PW X (.BoolOp .And (b :: rest) pos) tB') : PW X (.BoolOp .And (a :: b :: rest) pos) (tAnd tA tB') := by
  intro wh pins s σ H Q I h
  refine isTrue_and (thn (ha pins s σ H _ I h) fun c s1 ⟨H1, I1, q1⟩ => ?_)
  cases c with
  | true => exact hb wh pins s1 σ H1 Q I1 q1
  | false => exact ⟨H1, I1, q1⟩
theorem pw_or (ha : PT X a tA) (hb : PW X (.BoolOp .Or (b :: rest) pos) tB') : PW X (.BoolOp .Or (a :: b :: rest) pos) (tOr tA tB') := by
  intro wh pins s σ H Q I h
  refine isTrue_or (thn (ha pins s σ H _ I h) fun c s1 ⟨H1, I1, q1⟩ => ?_)
  cases c with
  | true => exact ⟨H1, I1, q1⟩
  | false => exact hb wh pins s1 σ H1 Q I1 q1
theorem pt_not (ha : PT X a tA) : PT X (.UnaryOp .Not a pos) (tNot tA) := by
  intro pins s σ H Q I h
  exact isTrue_not (ha pins s σ H (fun c H1 => Q (!c) H1) I h)
def tAndV (ta tb : TE) : TE := fun σ H Q => ta σ H fun x H1 => ∃ c, x = .bl c ∧ if c = true then tb σ H1 Q else Q (.bl false) H1
def tOrV (ta tb : TE) : TE := fun σ H Q => ta σ H fun x H1 => ∃ c, x = .bl c ∧ if c = true then Q (.bl true) H1 else tb σ H1 Q
def tNotV (ta : TE) : TE := fun σ H Q => ta σ H fun x H1 => ∃ c, x = .bl c ∧ Q (.bl (!c)) H1
theorem pe_one {op} {t : TE} (h : PE X a t) : PE X (.BoolOp op [a] pos) t := fun pins s σ H Q I hw => BoolOp_one (h pins s σ H Q I hw)
theorem pe_and (ha : PE X a ta) (hb : PE X (.BoolOp .And (b :: rest) pos) tb) : PE X (.BoolOp .And (a :: b :: rest) pos) (tAndV ta tb) := by
  intro pins s σ H Q I h
  refine BoolOp_and (thn (ha pins s σ H _ I h) fun v s1 ⟨x, H1, I1, r1, q1⟩ => ?_)
  obtain ⟨c, rfl, q1⟩ := q1
  cases r1
  refine wpAny_truthy_bool ?_
  cases c with
  | true => exact hb pins s1 σ H1 Q I1 q1
  | false => exact ⟨.bl false, H1, I1, rfl, q1⟩
theorem pe_or (ha : PE X a ta) (hb : PE X (.BoolOp .Or (b :: rest) pos) tb) : PE X (.BoolOp .Or (a :: b :: rest) pos) (tOrV ta tb) := by
  intro pins s σ H Q I h
  refine BoolOp_or (thn (ha pins s σ H _ I h) fun v s1 ⟨x, H1, I1, r1, q1⟩ => ?_)
  obtain ⟨c, rfl, q1⟩ := q1
  cases r1
  refine wpAny_truthy_bool ?_
  cases c with
  | false => exact hb pins s1 σ H1 Q I1 q1
  | true => exact ⟨.bl true, H1, I1, rfl, q1⟩
def tIf (t : TT) (ta tb : TE) : TE := fun σ H Q => t σ H fun c H1 => if c = true then ta σ H1 Q else tb σ H1 Q
theorem pe_ifExp {c : Expr} (hc : PT X c tA) (ha : PE X a ta) (hb : PE X b tb) : PE X (.IfExp c a b pos) (tIf tA ta tb) := by
  intro pins s σ H Q I h
  refine wpAny_IfExp (thn (hc pins s σ H _ I h) fun d s1 ⟨H1, I1, q1⟩ => ?_)
  cases d with
  | true => exact ha pins s1 σ H1 Q I1 q1
  | false => exact hb pins s1 σ H1 Q I1 q1
end
end L2
namespace L2
open PySem PySem.Spec PyProof.Rows
def SqL (K : PySem.W.Frag) (H : Hp) (a : Addr) (xs : List V) : Prop :=
  Rd H a (.lst xs) ∨
    ∃ (o : Obj) (its : Array Value) (n : Nat), K.lookup a = some o ∧ o.cls = .type "list" ∧ o.dict = none ∧ o.data = .seq its n ∧ its.size ≤ sizeLine ∧ Vals xs its.toList
def SqT (K : PySem.W.Frag) (H : Hp) (a : Addr) (xs : List V) : Prop :=
  Rd H a (.tup xs) ∨
    ∃ (o : Obj) (its : Array Value) (n : Nat), K.lookup a = some o ∧ o.cls = .type "tuple" ∧ o.data = .seq its n ∧ its.size ≤ sizeLine ∧ Vals xs its.toList
def absV : Value → Option V
  | .none => some .non
  | .bool b => some (.bl b)
  | .int i _ => some (.int i)
  | .str x _ => some (.str x)
  | .bytes b _ => some (.byt b)
  | .float b _ => some (.flt b)
  | .ref a => some (.ref a)
  | .type n => some (.ty n)
  | _ => none
theorem RelV.abs {x : V} {u : Value} (r : RelV x u) : absV u = some x := by
  cases x with
  | non => cases r; rfl
  | bl _ => cases r; rfl
  | int _ => obtain ⟨t, rfl⟩ := r; rfl
  | str _ => obtain ⟨t, rfl⟩ := r; rfl
  | byt _ => obtain ⟨t, rfl⟩ := r; rfl
  | flt _ => obtain ⟨t, rfl⟩ := r; rfl
  | ref _ => cases r; rfl
  | ty _ => cases r; rfl
theorem RelV.inj {x y : V} {u : Value} (r : RelV x u) (q : RelV y u) : x = y := Option.some.inj (r.abs.symm.trans q.abs)
theorem Vals.inj : ∀ {xs ys : List V} {us : List Value}, Vals xs us → Vals ys us → xs = ys
  | _, _, _, .nil, .nil => rfl
  | _, _, _, .cons r t, .cons r' t' => by rw [r.inj r', Vals.inj t t']
section
variable {X : Cx} {pins : List (Addr × Obj)} {σ : St} {H : Hp} {s : Shared} {a : Addr} {xs ys : List V}
theorem SqL.of {K : PySem.W.Frag} (h : H a = some (.lst xs)) : SqL K H a xs := .inl (.inl h)
theorem SqT.of {K : PySem.W.Frag} (h : H a = some (.tup xs)) : SqT K H a xs := .inl (.inl h)
theorem Inv.list (I : Inv X pins σ H s) (h : SqL X.K H a xs) : ∃ its : List Value, Vals xs its ∧ PlainL s.heap a its.toArray ∧ xs.length ≤ sizeLine := by
  rcases h with h | ⟨o, its, n, hk, hc, hd, hs, hz, r⟩
  · obtain ⟨z, its, n, r, e⟩ := h.ok I.hok
    exact ⟨its, r, ⟨_, n, e, rfl, rfl, rfl⟩, z⟩
  · refine ⟨its.toList, r, ⟨o, n, I.kIn a o hk, hc, hd, by simpa using hs⟩, ?_⟩
    have e := r.length
    simp only [Array.length_toList] at e
    omega
theorem Inv.tuple (I : Inv X pins σ H s) (h : SqT X.K H a xs) : ∃ its : List Value, Vals xs its ∧ IsTup s.heap a its.toArray ∧ xs.length ≤ sizeLine := by
  rcases h with h | ⟨o, its, n, hk, hc, hs, hz, r⟩
  · obtain ⟨z, its, r, p⟩ := h.ok I.hok
    exact ⟨its, r, p, z⟩
  · refine ⟨its.toList, r, ⟨o, I.kIn a o hk, hc, n, by simpa using hs⟩, ?_⟩
    have e := r.length
    simp only [Array.length_toList] at e
    omega
theorem Inv.list_inj (I : Inv X pins σ H s) (h : SqL X.K H a xs) (h' : SqL X.K H a ys) : xs = ys := by
  obtain ⟨its, r, ⟨o, n, e, _, _, d⟩, _⟩ := I.list h
  obtain ⟨its', r', ⟨o', n', e', _, _, d'⟩, _⟩ := I.list h'
  rw [e] at e'; cases e'
  rw [d] at d'
  injection d' with d1 _
  have : its = its' := by simpa using congrArg Array.toList d1
  subst this
  exact r.inj r'
end
abbrev Cx.wish (X : Cx) (E : Value → Shared → Prop) : Cx := { X with xe := E }
abbrev Cx.nox (X : Cx) : Cx := X.wish fun _ _ => False
theorem Cx.Ok.wish {X : Cx} (ok : X.Ok) (E : Value → Shared → Prop) : (X.wish E).Ok :=
  ⟨ok.mod, ok.kind, ok.glob, ok.blt, ok.above, ok.inj, ok.has, ok.cab, ok.hd, ok.frames, ok.stk, ok.exf, ok.bs, ok.bsz, ok.noex, ok.exfs, ok.funs, ok.frf⟩
theorem Cx.Ok.unwish {X : Cx} {E : Value → Shared → Prop} (ok : (X.wish E).Ok) : X.Ok :=
  ⟨ok.mod, ok.kind, ok.glob, ok.blt, ok.above, ok.inj, ok.has, ok.cab, ok.hd, ok.frames, ok.stk, ok.exf, ok.bs, ok.bsz, ok.noex, ok.exfs, ok.funs, ok.frf⟩
section
variable {X : Cx} {pins : List (Addr × Obj)} {σ : St} {H : Hp} {s : Shared} {E : Value → Shared → Prop}
theorem Inv.wish (I : Inv X pins σ H s) (E : Value → Shared → Prop) : Inv (X.wish E) pins σ H s := ⟨I.ok.wish E, I.os, I.bare, I.base, I.loc, I.cell, I.free, I.freeC, I.pin, I.hok, I.len⟩
theorem Inv.unwish (I : Inv (X.wish E) pins σ H s) : Inv X pins σ H s := ⟨I.ok.unwish, I.os, I.bare, I.base, I.loc, I.cell, I.free, I.freeC, I.pin, I.hok, I.len⟩
theorem SP.unwish {D : Ends} {f : Flow} {s' : Shared} (h : SP (X.wish E) pins D f s') : SP X pins D f s' := by
  cases f with
  | next => obtain ⟨σ', H', I, q⟩ := h; exact ⟨σ', H', I.unwish, q⟩
  | brk => obtain ⟨σ', H', I, q⟩ := h; exact ⟨σ', H', I.unwish, q⟩
  | cont => obtain ⟨σ', H', I, q⟩ := h; exact ⟨σ', H', I.unwish, q⟩
  | ret u => obtain ⟨v, σ', H', I, r, q⟩ := h; exact ⟨v, σ', H', I.unwish, r, q⟩
theorem PE.nox {e : Expr} {t : TE} (h : PE X.nox e t) : PE X e t := fun pins s σ H Q I hw =>
  wpAny_mono (h pins s σ H Q (I.wish _) hw) (fun _ _ ⟨v, H', I', r, q⟩ => ⟨v, H', I'.unwish, r, q⟩) fun _ _ z => False.elim z
theorem PT.nox {e : Expr} {t : TT} (h : PT X.nox e t) : PT X e t := fun pins s σ H Q I hw =>
  wpAny_mono (h pins s σ H Q (I.wish _) hw) (fun _ _ ⟨H', I', q⟩ => ⟨H', I'.unwish, q⟩) fun _ _ z => False.elim z
theorem PSs.nox {st : List Stmt} {t : TS} (h : PSs X.nox st t) : PSs X st t := fun pins s σ H D I hw =>
  wpAny_mono (h pins s σ H D (I.wish _) hw) (fun _ _ q => q.unwish) fun _ _ z => False.elim z
end
section
variable {X : Cx} {st : Stmt} {rest : List Stmt} {t u : TS} {e : Expr} {te : TE} {pos : Pos}
def tNext : TS := fun D σ H => D.nx σ H
def tSeq (t u : TS) : TS := fun D σ H => t { D with nx := u D } σ H
theorem pss_nil : PSs X [] tNext := fun _ _ σ H _ I h => wpAny_execs_nil ⟨σ, H, I, h⟩
theorem pss_cons (h1 : PS X st t) (h2 : PSs X rest u) : PSs X (st :: rest) (tSeq t u) := by
  intro pins s σ H D I h
  refine wpAny_execs_cons (thn (h1 pins s σ H { D with nx := u D } I h) fun f s1 q => ?_)
  cases f with
  | next =>
    obtain ⟨σ', H', I', q⟩ := q
    exact h2 pins s1 σ' H' D I' q
  | ret v => exact q
  | brk => exact q
  | cont => exact q
theorem pss_one (h1 : PS X st t) : PSs X [st] t := by
  intro pins s σ H D I h
  refine wpAny_execs_cons (thn (h1 pins s σ H D I h) fun f s1 q => ?_)
  cases f with
  | next => exact wpAny_execs_nil q
  | ret v => exact q
  | brk => exact q
  | cont => exact q
def tBreak : TS := fun D σ H => D.bk σ H
def tCont : TS := fun D σ H => D.ct σ H
theorem Inv.quiet {pins : List (Addr × Obj)} {σ : St} {H : Hp} {s : Shared} (I : Inv X pins σ H s) : interactive X.env = false := by simp [interactive, I.ok.kind]
def tDrop (te : TE) : TS := fun D σ H => te σ H fun _ H1 => D.nx σ H1
theorem ps_expr (he : PE X e te) (hs : swapsWith e none pos.line X.env = pure false := by rfl) : PS X (.Expr e pos) (tDrop te) := by
  intro pins s σ H D I h
  exact wpAny_Expr_any (thn (he pins s σ H _ I h) fun v s1 ⟨x, H1, I1, r1, q1⟩ => ⟨σ, H1, I1, q1⟩) I.quiet hs
def tRet (te : TE) : TS := fun D σ H => te σ H D.rt
theorem ps_ret (he : PE X e te) : PS X (.Return (some e) pos) (tRet te) := by
  intro pins s σ H D I h
  exact wpAny_Return_some (thn (he pins s σ H _ I h) fun v s1 ⟨x, H1, I1, r1, q1⟩ => ⟨x, σ, H1, I1, r1, q1⟩)
def tRetN : TS := fun D _ H => D.rt .non H
def tIfS (c : TT) (t u : TS) : TS := fun D σ H => c σ H fun b H1 => if b = true then t D σ H1 else u D σ H1
theorem ps_if {c : Expr} {a b : List Stmt} {tc : TT} (hc : PT X c tc) (ha : PSs X a t) (hb : PSs X b u) : PS X (.If c a b pos) (tIfS tc t u) := by
  intro pins s σ H D I h
  refine wpAny_If (thn (hc pins s σ H _ I h) fun d s1 ⟨H1, I1, q1⟩ => ?_)
  cases d with
  | true => exact ha pins s1 σ H1 D I1 q1
  | false => exact hb pins s1 σ H1 D I1 q1
end
abbrev TG := V → St → Hp → (St → Hp → Prop) → Prop
abbrev TGs := List V → St → Hp → (St → Hp → Prop) → Prop
def PG (X : Cx) (target : Expr) (t : TG) : Prop :=
  ∀ (pins : List (Addr × Obj)) (s : Shared) (σ : St) (H : Hp) (v : V) (u : Value) (Q : St → Hp → Prop), Inv X pins σ H s → RelV v u → t v σ H Q →
    wpAny (model X.prog X.w) X.A (assign target X.env u) (fun _ s' => ∃ σ' H', Inv X pins σ' H' s' ∧ Q σ' H') X.xe s
def PGs (X : Cx) (ts : List Expr) (t : TGs) : Prop :=
  ∀ (pins : List (Addr × Obj)) (s : Shared) (σ : St) (H : Hp) (vs : List V) (us : List Value) (Q : St → Hp → Prop), Inv X pins σ H s → Vals vs us → t vs σ H Q →
    wpAny (model X.prog X.w) X.A (assignInOrder ((assignEach ts X.env).map (·.2)) us) (fun _ s' => ∃ σ' H', Inv X pins σ' H' s' ∧ Q σ' H') X.xe s
abbrev TSet := V → V → V → Hp → (Hp → Prop) → Prop
def PSet (X : Cx) (t : TSet) : Prop :=
  ∀ (pins : List (Addr × Obj)) (s : Shared) (σ : St) (H : Hp) (o i v : V) (ov iv u : Value) (Q : Hp → Prop), Inv X pins σ H s → RelV o ov → RelV i iv → RelV v u → t o i v H Q →
    wpAny (model X.prog X.w) X.A (setItem ov iv u) (fun _ s' => ∃ H', Inv X pins σ H' s' ∧ Q H') X.xe s
section
variable {X : Cx} {pos : Pos}
def gName (i : Nat) : TG := fun v σ H Q => Q (σ.set i (some v)) H
theorem pg_name {i : Nat} {x : Str} (hN : X.N.Nodup) (hi : X.N[i]? = some x) (hx : Loc X.env.scope x) (hf : X.fn x = true ∨ X.env.scope.names.lookup x = some .local := by first | exact .inl rfl | exact .inr rfl | assumption) : PG X (.Name x pos) (gName i) := by
  intro pins s σ H v u Q I r h
  exact wpAny_assign_Name (store_ok I hN hi hx r (fun s' I' => ⟨_, H, I', h⟩) hf)
def gNil : TGs := fun vs σ H Q => vs = [] ∧ Q σ H
def gCons (t : TG) (u : TGs) : TGs := fun vs σ H Q => ∃ v r, vs = v :: r ∧ t v σ H fun σ' H' => u r σ' H' Q
theorem pgs_nil : PGs X [] gNil := by
  intro pins s σ H vs us Q I r h
  obtain ⟨e, h⟩ := h
  subst e
  cases r
  exact assignInOrder_nil ⟨σ, H, I, h⟩
theorem pgs_cons {e : Expr} {es : List Expr} {t : TG} {u : TGs} (h1 : PG X e t) (h2 : PGs X es u)
    (hs : (assignEach (e :: es) X.env).map (·.2) = assign e X.env :: (assignEach es X.env).map (·.2) := by rfl) : PGs X (e :: es) (gCons t u) := by
  intro pins s σ H vs us Q I r h
  obtain ⟨v, vr, e1, h⟩ := h
  subst e1
  cases r with
  | cons r rr =>
    rw [hs]
    refine assignInOrder_cons (thn (h1 pins s σ H _ _ _ I r h) fun _ s1 ⟨σ1, H1, I1, q1⟩ => ?_)
    exact h2 pins s1 σ1 H1 _ _ Q I1 rr q1
def gTup (K : PySem.W.Frag) (n : Nat) (t : TGs) : TG := fun v σ H Q => ∃ a xs, v = .ref a ∧ SqT K H a xs ∧ xs.length = n ∧ t xs σ H Q
theorem pg_tup {es : List Expr} {k : Nat} {t : TGs} {n : Nat} (hc : X.calm = true) (h : PGs X es t)
    (hn : (assignEach es X.env).length = n := by rfl) (hst : (assignEach es X.env).findIdx? (·.1) = none := by rfl) : PG X (.Tuple es k pos) (gTup X.K n t) := by
  intro pins s σ H v u Q I r hw
  obtain ⟨a, xs, e1, hq, hl, hw⟩ := hw
  subst e1
  cases r
  obtain ⟨its, rv, ht, hz⟩ := I.tuple hq
  refine assign_Tuple_tuple (I.ok.hd hc) ht (by simp [hn, ← hl, rv.length]) hst fun h' hx => ?_
  have I1 : Inv X pins σ H { s with heap := h' } := I.kept (t' := s.toks) fun b o e => hx b o (Nat.ne_of_lt (Heap.lt_size e)) e
  exact h pins _ σ H xs _ Q I1 (by simpa using rv) hw
def gSub (to ti : TE) (t : TSet) : TG := fun v σ H Q => to σ H fun o H1 => ti σ H1 fun i H2 => t o i v H2 fun H3 => Q σ H3
theorem pg_sub {o i : Expr} {to ti : TE} {t : TSet} (ho : PE X o to) (hi : PE X i ti) (hs : PSet X t)
    (ha : ∀ v, assign (.Subscript o i pos) X.env v = (do
      let ov ← holding [v] (eval o X.env)
      let iv ← holding [v, ov] (eval i X.env)
      standAt pos
      holding [v, ov, iv] (setItem ov iv v)
      release [v, ov, iv] []) := by intro _; rfl) : PG X (.Subscript o i pos) (gSub to ti t) := by
  intro pins s σ H v u Q I r h
  rw [ha]
  refine wpAny_bind (wpAny_holding (thn (ho pins s σ H _ I h) fun ov s1 ⟨x, H1, I1, r1, q1⟩ => ?_))
  refine wpAny_bind (wpAny_holding (thn (hi pins s1 σ H1 _ I1 q1) fun iv s2 ⟨y, H2, I2, r2, q2⟩ => ?_))
  refine wpAny_bind (wpAny_standAt (wpAny_bind (wpAny_holding (thn (hs pins s2 σ H2 x y v ov iv u _ I2 r1 r2 r q2) fun _ s3 ⟨H3, I3, q3⟩ => ?_))))
  exact wpAny_release ⟨σ, H3, I3, q3⟩
def tAsg (te : TE) (g : TG) : TS := fun D σ H => te σ H fun x H1 => g x σ H1 D.nx
theorem ps_asg {tg e : Expr} {te : TE} {g : TG} (he : PE X e te) (hg : PG X tg g) (hs : swapsWithSole [tg] e pos.line X.env = pure false := by rfl) (hw : swappedStores [tg] e X.env = pure none := by rfl)
    (h1 : (assignEach [tg] X.env).map (·.2) = [assign tg X.env] := by rfl) : PS X (.Assign [tg] e pos) (tAsg te g) := by
  intro pins s σ H D I h
  refine wpAny_Assign_stores (thn (he pins s σ H _ I h) fun v s1 ⟨x, H1, I1, r1, q1⟩ => ?_) hs hw
  rw [h1]
  exact thn (hg pins s1 σ H1 x v _ I1 r1 q1) fun _ s2 q => q
theorem ps_set {i : Nat} {x : Str} {e : Expr} {te : TE} {pos' : Pos} (hN : X.N.Nodup) (hi : X.N[i]? = some x) (hx : Loc X.env.scope x) (he : PE X e te) (hs : swapsWith e (some (.Name x pos')) pos.line X.env = pure false := by rfl) (hf : X.fn x = true ∨ X.env.scope.names.lookup x = some .local := by first | exact .inl rfl | exact .inr rfl | assumption) :
    PS X (.Assign [.Name x pos'] e pos) (tAsg te (gName i)) := by
  intro pins s σ H D I h
  refine wpAny_Assign_Name (thn (he pins s σ H _ I h) fun v s1 ⟨y, H1, I1, r1, q1⟩ => ?_) hs
  exact store_ok I1 hN hi hx r1 (fun s2 I2 => ⟨_, H1, I2, q1⟩) hf
end
section
variable {X : Cx} {pos : Pos}
def tWhile (c : TT) (tb : TS) : TS := fun D σ H => ∃ W : Nat → St → Hp → Prop, (∃ m, W m σ H) ∧ ∀ m σ H, W m σ H →
  c σ H fun b H1 => if b = true then ∃ N : St → Hp → Prop, (∀ σ' H', N σ' H' → ∃ m', m' < m ∧ W m' σ' H') ∧ tb { D with nx := N, ct := N, bk := D.nx } σ H1 else D.nx σ H1
theorem ps_while {c : Expr} {body : List Stmt} {tc : TT} {tb : TS} (hp : PassesOwn (model X.prog X.w) X.A X.env X.xe) (hc : PT X c tc) (hb : PSs X body tb) : PS X (.While c body [] pos) (tWhile tc tb) := by
  intro pins s σ H D I h
  obtain ⟨W, ⟨m0, w0⟩, turn⟩ := h
  refine wpAny_While (codeAny_whileLoop (fun n s' => ∃ σ' H', Inv X pins σ' H' s' ∧ W n σ' H') ?_ m0 ⟨σ, H, I, w0⟩)
  rintro n s1 ⟨σ1, H1, I1, w1⟩
  refine wpAny_passesOwn hp (thn (hc pins s1 σ1 H1 _ I1 (turn n σ1 H1 w1)) fun b s2 ⟨H2, I2, q2⟩ => ?_)
  cases b with
  | true =>
    obtain ⟨N, hN, q2⟩ := q2
    rw [if_pos rfl]
    refine wpAny_passesOwn hp (thn (hb pins s2 σ1 H2 _ I2 q2) fun f s3 q3 => ?_)
    cases f with
    | next =>
      obtain ⟨σ3, H3, I3, n3⟩ := q3
      obtain ⟨m', hm, w3⟩ := hN σ3 H3 n3
      exact ⟨m', hm, σ3, H3, I3, w3⟩
    | cont =>
      obtain ⟨σ3, H3, I3, n3⟩ := q3
      obtain ⟨m', hm, w3⟩ := hN σ3 H3 n3
      exact ⟨m', hm, σ3, H3, I3, w3⟩
    | brk => exact q3
    | ret v => exact q3
  | false =>
    rw [if_neg Bool.false_ne_true]
    exact wpAny_execs_nil ⟨σ1, H2, I2, q2⟩
end
structure It where
  go : Nat → Hp → Prop
  yld : Nat → Hp → V → Hp → Prop
  stop : Nat → Hp → Prop
def FpOk (X : Cx) (pins : List (Addr × Obj)) (H : Hp) (b : Addr) : Prop :=
  H b = none ∧ b ≠ X.env.locals ∧ b ∉ X.fs ∧ (b ∈ X.ex ∨ X.s₀.heap.objs.size ≤ b) ∧ (∀ x c, X.env.cells.lookup x = some c → c ≠ b) ∧ ∀ p ∈ X.pn ++ pins, p.1 ≠ b
theorem Inv.fpOk {X : Cx} {pins : List (Addr × Obj)} {σ : St} {H H' : Hp} {s : Shared} {b : Addr} (I : Inv X pins σ H s) (hb : s.heap.objs.size ≤ b) (hn : H' b = none) : FpOk X pins H' b := by
  refine ⟨hn, Nat.ne_of_gt (Nat.lt_of_lt_of_le I.lt hb), I.nofs hb, .inr (Nat.le_trans I.sz hb), fun x c e z => ?_, fun p hp z => ?_⟩
  · obtain ⟨v, q⟩ := I.cell x c e
    exact absurd (Nat.lt_of_lt_of_le q.lt (by rw [z]; exact hb)) (Nat.lt_irrefl _)
  · exact absurd (Nat.lt_of_lt_of_le (Heap.lt_size (I.pin p hp).1) (by rw [z]; exact hb)) (Nat.lt_irrefl _)
structure Turn (P : Program) (w : World) (K : PySem.W.Frag) (tg : Expr) (J : It) (fp : List Addr) (it : Addr) (tn : Nat → Heap → Prop) : Prop where
  mem : it ∈ fp
  obj : ∀ i h, tn i h → ∀ b ∈ fp, ∃ o, h.get? b = some o ∧ ∀ v, o.data ≠ .cell v
  keep : ∀ i h h', tn i h → (∀ b ∈ fp, ∀ o, h.get? b = some o → h'.get? b = some o) → tn i h'
  item : ∀ (X : Cx), X.prog = P → X.w = w → X.K = K → X.calm = true → ∀ (i : Nat) (pins : List (Addr × Obj)) (s : Shared) (σ : St) (H : Hp) (E : Value → Shared → Prop), Inv X pins σ H s → (∀ b ∈ fp, FpOk X pins H b) → tn i s.heap → J.go i H →
    wpAny (model P w) X.A (pyNext (.ref it)) (fun r s1 => ∃ u, r = some u ∧
      wpAny (model P w) X.A (letOwnedTupleGo tg (.ref it) u) (fun _ s2 => ∃ x H', Inv X pins σ H' s2 ∧ RelV x u ∧ J.yld i H x H' ∧ tn (i + 1) s2.heap ∧ ∀ b ∈ fp, H' b = none) E s1) E s
  done : ∀ (X : Cx), X.prog = P → X.w = w → X.K = K → X.calm = true → ∀ (i : Nat) (pins : List (Addr × Obj)) (s : Shared) (σ : St) (H : Hp) (E : Value → Shared → Prop), Inv X pins σ H s → (∀ b ∈ fp, FpOk X pins H b) → tn i s.heap → J.stop i H →
    wpAny (model P w) X.A (pyNext (.ref it)) (fun r s1 => r = none ∧ Inv X pins σ H s1) E s
  self : ∀ (A : Around) (i : Nat) (s : Shared) (Q : Value → Shared → Prop) (E : Value → Shared → Prop), tn i s.heap → Q (.ref it) s → wpAny (model P w) A (pyIter (.ref it)) Q E s
abbrev TI := St → Hp → (It → Hp → Prop) → Prop
def PIE (X : Cx) (pins : List (Addr × Obj)) (σ : St) (tg : Expr) (R : It → Hp → Prop) (itv : Value) (s2 : Shared) : Prop :=
  ∃ (it : Addr) (fp : List Addr) (tn : Nat → Heap → Prop) (J : It) (H' : Hp), itv = .ref it ∧ Inv X pins σ H' s2 ∧ Turn X.prog X.w X.K tg J fp it tn ∧ tn 0 s2.heap ∧ (∀ b ∈ fp, FpOk X pins H' b) ∧ R J H'
def PI (X : Cx) (tg iter : Expr) (wi : TI) : Prop :=
  ∀ (pins : List (Addr × Obj)) (s : Shared) (σ : St) (H : Hp) (R : It → Hp → Prop), Inv X pins σ H s → wi σ H R →
    wpAny (model X.prog X.w) X.A (eval iter X.env) (fun v s1 => wpAny (model X.prog X.w) X.A (pyIter v) (PIE X pins σ tg R) X.xe s1) X.xe s
theorem go_of {M : Model} {A : Around} {E : Value → Shared → Prop} {s : Shared} {tg : Expr} {it : Addr} {u : Value} {o : Obj} {n : String} {vs : Array Value} {Q : Unit → Shared → Prop} (ho : s.heap.get? it = some o) (hc : o.cls = .type n) (hd : o.data = .fields vs)
    (hn : ["enumerate", "zip", "dict_itemiterator", "dict_reverseitemiterator", "odict_iterator", "itertools.zip_longest", "itertools.pairwise"].contains n = false) (hQ : Q () s) : wpAny M A (letOwnedTupleGo tg (.ref it) u) Q E s := by
  unfold letOwnedTupleGo
  cases tg <;> first
    | exact wpAny_pure hQ
    | (cases u <;> first
        | exact wpAny_pure hQ
        | (refine wpAny_bind (wpAny_load ho ?_)
           rw [hc, hd]
           show wpAny M A (if (["enumerate", "zip", "dict_itemiterator", "dict_reverseitemiterator", "odict_iterator", "itertools.zip_longest", "itertools.pairwise"].contains n && vs[0]? == some (rawInt _)) = true then _ else _) Q E s
           rw [if_neg (by intro h; rw [hn, Bool.false_and] at h; cases h)]
           exact wpAny_pure hQ))
def Itl (K : PySem.W.Frag) (a : Addr) : It :=
  ⟨fun i H => ∃ xs x, SqL K H a xs ∧ xs[i]? = some x, fun i H x H' => H' = H ∧ ∀ xs, SqL K H a xs → xs[i]? = some x, fun i H => ∃ xs, SqL K H a xs ∧ xs.length ≤ i⟩
def Itr (lo : Int) (n : Nat) : It := ⟨fun i _ => i < n, fun i H x H' => H' = H ∧ x = .int (lo + i), fun i _ => n ≤ i⟩
theorem turn_list {P : Program} {w : World} {K : PySem.W.Frag} {tg : Expr} (a it : Addr) : Turn P w K tg (Itl K a) [it] it (fun i h => h.IsListIter it a i) where
  mem := by simp
  obj := fun i h st b hb => by
    have e : b = it := by simpa using hb
    subst e
    obtain ⟨o, e, c, d⟩ := st
    exact ⟨o, e, fun v z => by rw [d] at z; cases z⟩
  keep := fun i h h' st k => st.at fun o e => k it (by simp) o e
  item := by
    intro X hP hw hK hc i pins s σ H E I hf st hg
    subst hP hw hK
    obtain ⟨xs, x, hq, hx⟩ := hg
    obtain ⟨its, rv, p, hz⟩ := I.list hq
    obtain ⟨u, hu, ru⟩ := rv.get hx
    obtain ⟨f0, f1, f2, f3, f4, f5⟩ := hf it (by simp)
    refine wpAny_pyNext_list_item st p.isList (x := u) (by simpa using hu) fun h' st' sb => ?_
    have I1 : Inv X pins σ H { s with heap := h' } := I.turned (t' := s.toks) (fun b o hb e => (sb.2 b hb).trans e) f0 f1 f3 f4 f5
    obtain ⟨o, e, c, d⟩ := id st'
    exact ⟨u, rfl, go_of (s := { s with heap := h' }) e c d (by decide) ⟨x, H, I1, ru, ⟨rfl, fun ys hy => by rw [I.list_inj hy hq]; exact hx⟩, st', fun b hb => (hf b hb).1⟩⟩
  done := by
    intro X hP hw hK hc i pins s σ H E I hf st hg
    subst hP hw hK
    obtain ⟨xs, hq, hx⟩ := hg
    obtain ⟨its, rv, p, hz⟩ := I.list hq
    obtain ⟨f0, f1, f2, f3, f4, f5⟩ := hf it (by simp)
    have hl := rv.length
    exact wpAny_pyNext_list_end (I.ok.hd hc) st p.isList (by simp; omega) fun h' eb => ⟨rfl, I.turned (t' := s.toks) (fun b o hb e => eb b o hb e) f0 f1 f3 f4 f5⟩
  self := fun _ _ _ _ _ st h => wpAny_pyIter_listiter st h
theorem turn_range {P : Program} {w : World} {K : PySem.W.Frag} {tg : Expr} (it : Addr) (lo : Int) (n : Nat) : Turn P w K tg (Itr lo n) [it] it (fun i h => IsRangeIter h it (lo + (i : Nat) * 1) ((n : Int) - (i : Nat)) 1) where
  mem := by simp
  obj := fun i h st b hb => by
    have e : b = it := by simpa using hb
    subst e
    exact ⟨_, st, fun v z => by
      have z' : Data.fields _ = Data.cell v := z
      cases z'⟩
  keep := fun i h h' st k => k it (by simp) _ st
  item := by
    intro X hP hw hK hc i pins s σ H E I hf st hg
    subst hP hw hK
    obtain ⟨f0, f1, f2, f3, f4, f5⟩ := hf it (by simp)
    have W := Walks.range (prog := X.prog) (w := X.w) (I.ok.hd hc) it lo 1 n
    refine W.item i s _ _ hg st fun v h' tk hv st' kk => ?_
    obtain ⟨t, rfl⟩ := hv
    have I1 : Inv X pins σ H { s with heap := h', toks := tk } := I.turned (fun b o hb e => kk b o (by simpa using hb) e) f0 f1 f3 f4 f5
    refine ⟨_, rfl, go_of (s := { s with heap := h', toks := tk }) (n := "range_iterator") st' rfl rfl (by decide) ⟨.int (lo + i), H, I1, ⟨t, ?_⟩, ⟨rfl, rfl⟩, st', fun b hb => (hf b hb).1⟩⟩
    rw [Int.mul_one]
  done := by
    intro X hP hw hK hc i pins s σ H E I hf st hg
    subst hP hw hK
    obtain ⟨f0, f1, f2, f3, f4, f5⟩ := hf it (by simp)
    exact wpAny_pyNext_range_end (I.ok.hd hc) st (by have : n ≤ i := hg; omega) fun h' eb => ⟨rfl, I.turned (t' := s.toks) (fun b o hb e => eb b o hb e) f0 f1 f3 f4 f5⟩
  self := fun _ _ _ _ _ st h => wpAny_pyIter_rangeiter st h
end L2
namespace L2
open PySem PySem.Spec PyProof.Rows
section
variable {X : Cx} {tg : Expr}
def iList (K : PySem.W.Frag) (tl : TE) : TI := fun σ H R => tl σ H fun x H1 => ∃ a, x = .ref a ∧ (∃ xs, SqL K H1 a xs) ∧ R (Itl K a) H1
theorem pi_list {l : Expr} {tl : TE} (hl : PE X l tl) : PI X tg l (iList X.K tl) := by
  intro pins s σ H R I h
  refine thn (hl pins s σ H _ I h) fun v s1 ⟨x, H1, I1, r1, q1⟩ => ?_
  obtain ⟨a, e, ⟨xs, hq⟩, q⟩ := q1
  subst e
  cases r1
  obtain ⟨its, rv, p, hz⟩ := I1.list hq
  refine wpAny_pyIter_list p.isList ?_
  refine ⟨s1.heap.objs.size, [s1.heap.objs.size], _, _, H1, rfl, I1.kept (t' := s1.toks) fun b o e => Heap.get?_push_of_some _ e, turn_list a _, ⟨_, Heap.get?_push_size _ rfl, rfl, rfl⟩, fun b hb => ?_, q⟩
  have e : b = s1.heap.objs.size := by simpa using hb
  subst e
  exact I1.fpOk (Nat.le_refl _) (I1.hok.fresh (Nat.le_refl _))
theorem range_it {pins : List (Addr × Obj)} {σ : St} {H : Hp} {s : Shared} {R : It → Hp → Prop} {E : Value → Shared → Prop} {lo hi : Int} {t u v : Tok} {tk : Nat} (I : Inv X pins σ H s) (h1 : -(2 ^ 62) ≤ lo) (h2 : lo < 2 ^ 62) (h3 : -(2 ^ 62) ≤ hi) (h4 : hi < 2 ^ 62)
    (q : R (Itr lo (hi - lo).toNat) H) : wpAny (model X.prog X.w) X.A (pyIter (.ref s.heap.objs.size)) (PIE X pins σ tg R) E { s with heap := s.heap.push { cls := .type "range", data := .fields #[.int lo t, .int hi u, .int 1 v] }, toks := tk } := by
  refine wpAny_pyIter_range (IsRange.new ..) (small_one h1 h2 h3 h4) ?_
  have I1 : Inv X pins σ H { s with heap := s.heap.push { cls := .type "range", data := .fields #[.int lo t, .int hi u, .int 1 v] }, toks := tk } := I.kept fun b o e => Heap.get?_push_of_some _ e
  refine ⟨(s.heap.push { cls := .type "range", data := .fields #[.int lo t, .int hi u, .int 1 v] }).objs.size, [(s.heap.push { cls := .type "range", data := .fields #[.int lo t, .int hi u, .int 1 v] }).objs.size], _, _, H, rfl,
    I1.kept (t' := tk) fun b o e => Heap.get?_push_of_some _ e, turn_range _ lo (hi - lo).toNat, ?_, fun b hb => ?_, q⟩
  · have e1 : lo + ((0 : Nat) : Int) * 1 = lo := by simp
    have e2 : (((hi - lo).toNat : Nat) : Int) - ((0 : Nat) : Int) = Builtin.Range.rangeSize lo hi 1 := by rw [rangeSize_one]; split <;> omega
    show IsRangeIter _ _ (lo + ((0 : Nat) : Int) * 1) ((((hi - lo).toNat : Nat) : Int) - ((0 : Nat) : Int)) 1
    rw [e1, e2]
    exact Heap.get?_push_size _ rfl
  · have e : b = (s.heap.push { cls := .type "range", data := .fields #[.int lo t, .int hi u, .int 1 v] }).objs.size := by simpa using hb
    subst e
    exact I1.fpOk (Nat.le_refl _) (I1.hok.fresh (Nat.le_refl _))
def iRng1 (ta : TA) : TI := fun σ H R => ta σ H fun vs H1 => ∃ j : Int, vs = [.int j] ∧ -(2 ^ 62) ≤ j ∧ j < 2 ^ 62 ∧ R (Itr 0 j.toNat) H1
def iRng2 (ta : TA) : TI := fun σ H R => ta σ H fun vs H1 => ∃ i j : Int, vs = [.int i, .int j] ∧ (-(2 ^ 62) ≤ i ∧ i < 2 ^ 62 ∧ -(2 ^ 62) ≤ j ∧ j < 2 ^ 62) ∧ R (Itr i (j - i).toNat) H1
theorem pi_range1 {a : Expr} {ta : TA} {p pos : Pos} (hg : Gl X "range") (hm : X.mg "range" = none) (ha : PA X [a] ta) (hs : starEach [a] X.env = [(false, eval a X.env)] := by rfl) : PI X tg (.Call (.Name "range" p) [a] [] pos) (iRng1 ta) := by
  intro pins s σ H R I h
  refine Call_ (ld_blt I hg hm boot_range (PyProof.Rows.callWith_type1 (thn (ha pos pins s σ H _ I h) fun us s1 ⟨vs, H1, I1, r1, q1⟩ => ?_) hs rfl))
  obtain ⟨j, e, q1, q2, q⟩ := q1
  subst e
  cases r1 with
  | cons r rr =>
    cases rr
    obtain ⟨t, rfl⟩ := r
    exact call_range_1 (range_it I1 (by omega) (by omega) q1 q2 (by simpa using q))
theorem pi_range2 {a b : Expr} {ta : TA} {p pos : Pos} (hg : Gl X "range") (hm : X.mg "range" = none) (ha : PA X [a, b] ta) (hs : starEach [a, b] X.env = [(false, eval a X.env), (false, eval b X.env)] := by rfl) (hs2 : starEach [b] X.env = [(false, eval b X.env)] := by rfl) :
    PI X tg (.Call (.Name "range" p) [a, b] [] pos) (iRng2 ta) := by
  intro pins s σ H R I h
  refine Call_ (ld_blt I hg hm boot_range (PyProof.Rows.callWith_type1 (thn (ha pos pins s σ H _ I h) fun us s1 ⟨vs, H1, I1, r1, q1⟩ => ?_) (by rw [hs, hs2]) (by rw [hs2]; rfl)))
  obtain ⟨i, j, e, ⟨q1, q2, q3, q4⟩, q⟩ := q1
  subst e
  cases r1 with
  | cons r rr =>
    cases rr with
    | cons r' rr =>
      cases rr
      obtain ⟨t, rfl⟩ := r
      obtain ⟨t', rfl⟩ := r'
      exact call_range_2 (range_it I1 q1 q2 q3 q4 q)
def tFor (wi : TI) (g : TG) (tb : TS) : TS := fun D σ H => wi σ H fun J H1 => ∃ W : Nat → Nat → St → Hp → Prop, (∃ m, W 0 m σ H1) ∧ ∀ i m σ H, W i m σ H →
  (J.stop i H ∧ D.nx σ H) ∨ (J.go i H ∧ ∃ N : St → Hp → Prop, (∀ σ' H', N σ' H' → ∃ m', m' < m ∧ W (i + 1) m' σ' H') ∧ ∀ x H', J.yld i H x H' → g x σ H' fun σ2 H2 => tb { D with nx := N, ct := N, bk := D.nx } σ2 H2)
def pinsAt (fp : List Addr) (h : Heap) : List (Addr × Obj) := fp.filterMap fun b => (h.get? b).map fun o => (b, o)
theorem mem_pinsAt {fp : List Addr} {h : Heap} {b : Addr} {o : Obj} (hb : b ∈ fp) (e : h.get? b = some o) : (b, o) ∈ pinsAt fp h := List.mem_filterMap.mpr ⟨b, hb, by rw [e]; rfl⟩
theorem of_pinsAt {fp : List Addr} {h : Heap} {p : Addr × Obj} (hp : p ∈ pinsAt fp h) : p.1 ∈ fp ∧ h.get? p.1 = some p.2 := by
  obtain ⟨b, hb, e⟩ := List.mem_filterMap.mp hp
  cases q : h.get? b with
  | none => rw [q] at e; cases e
  | some o =>
    rw [q] at e
    have e' : (b, o) = p := Option.some.inj e
    subst e'
    exact ⟨hb, q⟩
theorem Inv.pinned {pins : List (Addr × Obj)} {σ : St} {H : Hp} {s : Shared} {fp : List Addr} (I : Inv X pins σ H s) (hf : ∀ b ∈ fp, FpOk X pins H b) (ho : ∀ b ∈ fp, ∃ o, s.heap.get? b = some o ∧ ∀ v, o.data ≠ .cell v) : Inv X (pins ++ pinsAt fp s.heap) σ H s :=
  I.pins_of fun p hp => (List.mem_append.mp hp).elim (fun z => I.pin p (List.mem_append_right _ z)) fun z => by
    obtain ⟨hb, e⟩ := of_pinsAt z
    obtain ⟨f0, f1, f2, _⟩ := hf p.1 hb
    obtain ⟨o, e', d⟩ := ho p.1 hb
    rw [e] at e'; cases e'
    exact ⟨e, f0, f1, f2, d⟩
theorem Inv.unpinned {pins pl : List (Addr × Obj)} {σ : St} {H : Hp} {s : Shared} (I : Inv X (pins ++ pl) σ H s) : Inv X pins σ H s := I.pins_of fun p hp => I.pin p (List.mem_append_right _ (List.mem_append_left _ hp))
theorem ps_for {iter : Expr} {body : List Stmt} {wi : TI} {g : TG} {tb : TS} {pos : Pos} (hp : PassesOwn (model X.prog X.w) X.A X.env X.xe) (hc : X.calm = true) (hi : PI X tg iter wi) (hg : PG X tg g) (hb : PSs X body tb)
    (hs : ∀ x, foldedSetIterable iter X.env x = pure x := by intro _; rfl) : PS X (.For tg iter body [] pos) (tFor wi g tb) := by
  intro pins s σ H D I h
  refine wpAny_For (thn (hi pins s σ H _ I h) fun v s1 h1 => thn h1 fun itv s2 h2 => ?_) hs
  obtain ⟨it, fp, tn, J, H2, e, I2, T, st2, f2, W, ⟨m0, w0⟩, turn⟩ := h2
  subst e
  -- what stays true of the iterator's objects through the loop
  have stat : ∀ {H' : Hp}, (∀ b ∈ fp, H' b = none) → ∀ b ∈ fp, FpOk X pins H' b := fun hn b hb => ⟨hn b hb, (f2 b hb).2⟩
  refine codeAny_forLoop_any (fun n s' => ∃ i σ' H', Inv X pins σ' H' s' ∧ tn i s'.heap ∧ (∀ b ∈ fp, H' b = none) ∧ W i n σ' H') ?_ m0 ⟨0, σ, H2, I2, st2, fun b hb => (f2 b hb).1, w0⟩
  rintro n s3 ⟨i, σ3, H3, I3, st3, fr3, w3⟩
  rcases turn i n σ3 H3 w3 with ⟨stop, qn⟩ | ⟨go, N, hN, step⟩
  · refine wpAny_passesOwn hp (thn (T.done X rfl rfl rfl hc i pins s3 σ3 H3 X.xe I3 (stat fr3) st3 stop) fun r s4 ⟨hr, I4⟩ => ?_)
    subst hr
    exact wpAny_execs_nil ⟨σ3, H3, I4, qn⟩
  · refine wpAny_passesOwn hp (thn (T.item X rfl rfl rfl hc i pins s3 σ3 H3 X.xe I3 (stat fr3) st3 go) fun r s4 ⟨u, hr, h4⟩ => ?_)
    subst hr
    refine wpAny_passesOwn hp (thn h4 fun _ s5 ⟨x, H5, I5, r5, y5, st5, fr5⟩ => ?_)
    have I5' := I5.pinned (stat fr5) (T.obj _ _ st5)
    refine wpAny_passesOwn hp (thn (hg _ s5 σ3 H5 x u _ I5' r5 (step x H5 y5)) fun _ s6 ⟨σ6, H6, I6, q6⟩ => ?_)
    refine wpAny_passesOwn hp (thn (hb _ s6 σ6 H6 _ I6 q6) fun f s7 q7 => ?_)
    have again : ∀ {σ7 : St} {H7 : Hp}, Inv X (pins ++ pinsAt fp s5.heap) σ7 H7 s7 → N σ7 H7 → ∃ m, m < n ∧ ∃ i σ' H', Inv X pins σ' H' s7 ∧ tn i s7.heap ∧ (∀ b ∈ fp, H' b = none) ∧ W i m σ' H' := fun {σ7 H7} I7 n7 => by
      obtain ⟨m', hm, w7⟩ := hN σ7 H7 n7
      refine ⟨m', hm, i + 1, σ7, H7, I7.unpinned, T.keep _ _ _ st5 fun b hb o e => (I7.pin (b, o) (List.mem_append_right _ (List.mem_append_right _ (mem_pinsAt hb e)))).1, fun b hb => ?_, w7⟩
      obtain ⟨o, e, d⟩ := T.obj _ _ st5 b hb
      exact (I7.pin (b, o) (List.mem_append_right _ (List.mem_append_right _ (mem_pinsAt hb e)))).2.1
    cases f with
    | next => obtain ⟨σ7, H7, I7, n7⟩ := q7; exact again I7 n7
    | cont => obtain ⟨σ7, H7, I7, n7⟩ := q7; exact again I7 n7
    | brk => obtain ⟨σ7, H7, I7, q7⟩ := q7; exact ⟨σ7, H7, I7.unpinned, q7⟩
    | ret v => obtain ⟨x7, σ7, H7, I7, r7, q7⟩ := q7; exact ⟨x7, σ7, H7, I7.unpinned, r7, q7⟩
end
theorem for_list {K : PySem.W.Frag} {a : Addr} {xs : List V} {g : TG} {tb : TS} {D : Ends} {σ : St} {H : Hp} (Pv : Nat → St → Hp → Prop) (h0 : Pv 0 σ H) (hl : ∀ i σ H, i ≤ xs.length → Pv i σ H → SqL K H a xs)
    (hs : ∀ i x σ H, xs[i]? = some x → Pv i σ H → g x σ H fun σ2 H2 => tb { D with nx := Pv (i + 1), ct := Pv (i + 1), bk := D.nx } σ2 H2) (hd : ∀ σ H, Pv xs.length σ H → D.nx σ H) :
    ∃ W : Nat → Nat → St → Hp → Prop, (∃ m, W 0 m σ H) ∧ ∀ i m σ H, W i m σ H →
      ((Itl K a).stop i H ∧ D.nx σ H) ∨ ((Itl K a).go i H ∧ ∃ N : St → Hp → Prop, (∀ σ' H', N σ' H' → ∃ m', m' < m ∧ W (i + 1) m' σ' H') ∧ ∀ x H', (Itl K a).yld i H x H' → g x σ H' fun σ2 H2 => tb { D with nx := N, ct := N, bk := D.nx } σ2 H2) := by
  refine ⟨fun i m σ H => m = xs.length - i ∧ i ≤ xs.length ∧ Pv i σ H, ⟨xs.length, by simp, Nat.zero_le _, h0⟩, ?_⟩
  rintro i m σ H ⟨rfl, hi, p⟩
  have q := hl i σ H hi p
  by_cases hlt : i < xs.length
  · refine .inr ⟨⟨xs, xs[i], q, by simp [hlt]⟩, Pv (i + 1), fun σ' H' p' => ⟨xs.length - (i + 1), by omega, rfl, hlt, p'⟩, fun x H' y => ?_⟩
    obtain ⟨e, y⟩ := y
    subst e
    exact hs i x σ _ (y xs q) p
  · have e : i = xs.length := by omega
    subst e
    exact .inl ⟨⟨xs, q, Nat.le_refl _⟩, hd σ H p⟩
theorem for_range {lo : Int} {n : Nat} {g : TG} {tb : TS} {D : Ends} {σ : St} {H : Hp} (Pv : Nat → St → Hp → Prop) (h0 : Pv 0 σ H)
    (hs : ∀ i σ H, i < n → Pv i σ H → g (.int (lo + i)) σ H fun σ2 H2 => tb { D with nx := Pv (i + 1), ct := Pv (i + 1), bk := D.nx } σ2 H2) (hd : ∀ σ H, Pv n σ H → D.nx σ H) :
    ∃ W : Nat → Nat → St → Hp → Prop, (∃ m, W 0 m σ H) ∧ ∀ i m σ H, W i m σ H →
      ((Itr lo n).stop i H ∧ D.nx σ H) ∨ ((Itr lo n).go i H ∧ ∃ N : St → Hp → Prop, (∀ σ' H', N σ' H' → ∃ m', m' < m ∧ W (i + 1) m' σ' H') ∧ ∀ x H', (Itr lo n).yld i H x H' → g x σ H' fun σ2 H2 => tb { D with nx := N, ct := N, bk := D.nx } σ2 H2) := by
  refine ⟨fun i m σ H => m = n - i ∧ i ≤ n ∧ Pv i σ H, ⟨n, by simp, Nat.zero_le _, h0⟩, ?_⟩
  rintro i m σ H ⟨rfl, hi, p⟩
  by_cases hlt : i < n
  · refine .inr ⟨hlt, Pv (i + 1), fun σ' H' p' => ⟨n - (i + 1), by omega, rfl, hlt, p'⟩, fun x H' y => ?_⟩
    obtain ⟨e, y⟩ := y
    subst e y
    exact hs i σ _ hlt p
  · have e : i = n := by omega
    subst e
    exact .inl ⟨Nat.le_refl _, hd σ H p⟩
end L2
namespace L2
open PySem PySem.Spec PyProof.Rows
abbrev R2 := V → V → Hp → VK → Prop
def OpR (X : Cx) (f : Value → Value → Sem Value) (r : R2) : Prop :=
  ∀ (pins : List (Addr × Obj)) (s : Shared) (σ : St) (H : Hp) (x y : V) (v u : Value) (Q : VK), Inv X pins σ H s → RelV x v → RelV y u → r x y H Q →
    wpAny (model X.prog X.w) X.A (f v u) (EP X pins σ Q) X.xe s
def UnR (X : Cx) (f : Value → Sem Value) (r : V → Hp → VK → Prop) : Prop :=
  ∀ (pins : List (Addr × Obj)) (s : Shared) (σ : St) (H : Hp) (x : V) (v : Value) (Q : VK), Inv X pins σ H s → RelV x v → r x H Q →
    wpAny (model X.prog X.w) X.A (f v) (EP X pins σ Q) X.xe s
def CallR (X : Cx) (f : Value) (r : List V → Hp → VK → Prop) : Prop :=
  ∀ (pins : List (Addr × Obj)) (s : Shared) (σ : St) (H : Hp) (xs : List V) (us : List Value) (Q : VK), Inv X pins σ H s → Vals xs us → r xs H Q →
    wpAny (model X.prog X.w) X.A (call f us) (EP X pins σ Q) X.xe s
def tOp (r : R2) (ta tb : TE) : TE := fun σ H Q => ta σ H fun x H1 => tb σ H1 fun y H2 => r x y H2 Q
def tUn (r : V → Hp → VK → Prop) (ta : TE) : TE := fun σ H Q => ta σ H fun x H1 => r x H1 Q
def rI (C : Int → Int → Prop) (g : Int → Int → V) : R2 := fun x y H Q => ∃ i j, x = .int i ∧ y = .int j ∧ C i j ∧ Q (g i j) H
def rI0 (g : Int → Int → V) : R2 := fun x y H Q => ∃ i j, x = .int i ∧ y = .int j ∧ Q (g i j) H
def rU (g : Int → V) : V → Hp → VK → Prop := fun x H Q => ∃ i, x = .int i ∧ Q (g i) H
section
variable {X : Cx} {a b c : Expr} {ta tb tc : TE} {pos : Pos}
theorem binT (ha : PE X a ta) (hb : PE X b tb) {pins : List (Addr × Obj)} {s : Shared} {σ : St} {H : Hp} {R : V → V → Hp → Prop} (I : Inv X pins σ H s)
    (h : ta σ H fun x H1 => tb σ H1 fun y H2 => R x y H2) {Q : Value → Shared → Prop} {f : Value → Value → Sem Value}
    (hf : ∀ v u s2 x y H2, Inv X pins σ H2 s2 → RelV x v → RelV y u → R x y H2 → wpAny (model X.prog X.w) X.A (f v u) Q X.xe s2) :
    wpAny (model X.prog X.w) X.A (eval a X.env) (fun v s₁ => wpAny (model X.prog X.w) X.A (eval b X.env) (fun u s₂ => wpAny (model X.prog X.w) X.A (f v u) Q X.xe s₂) X.xe s₁) X.xe s := by
  refine thn (ha pins s σ H _ I h) fun v s1 ⟨x, H1, I1, r1, q1⟩ => ?_
  refine thn (hb pins s1 σ H1 _ I1 q1) fun u s2 ⟨y, H2, I2, r2, q2⟩ => ?_
  exact hf v u s2 x y H2 I2 r1 r2 q2
theorem pe_op {op : Operator} {r : R2} (ho : OpR X (binaryOp op) r) (ha : PE X a ta) (hb : PE X b tb) : PE X (.BinOp a op b pos) (tOp r ta tb) := by
  intro pins s σ H Q I h
  exact wpAny_BinOp (binT ha hb I h fun v u s2 x y H2 I2 rx ry q => ho pins s2 σ H2 x y v u Q I2 rx ry q)
theorem pe_un {op : UnaryOp} {r : V → Hp → VK → Prop} (ho : UnR X (unaryOp op) r) (ha : PE X a ta) : PE X (.UnaryOp op a pos) (tUn r ta) := by
  intro pins s σ H Q I h
  exact UnaryOp_ (thn (ha pins s σ H _ I h) fun v s1 ⟨x, H1, I1, r1, q1⟩ => ho pins s1 σ H1 x v Q I1 r1 q1)
theorem opI {f : Value → Value → Sem Value} {C : Int → Int → Prop} {g : Int → Int → Int}
    (rule : ∀ (i j : Int) (t u : Tok) (s : Shared) (Q : Value → Shared → Prop) (E : Value → Shared → Prop), C i j → Q (.int (g i j) s.toks) { s with toks := s.toks + 1 } → wpAny (model X.prog X.w) X.A (f (.int i t) (.int j u)) Q E s) :
    OpR X f (rI C fun i j => .int (g i j)) := by
  intro pins s σ H x y v u Q I rx ry h
  obtain ⟨i, j, rfl, rfl, hc, q⟩ := h
  obtain ⟨t, rfl⟩ := rx
  obtain ⟨t', rfl⟩ := ry
  exact rule i j t t' s _ _ hc ⟨.int (g i j), H, I.tok _, ⟨_, rfl⟩, q⟩
theorem opI0 {f : Value → Value → Sem Value} {g : Int → Int → Int}
    (rule : ∀ (i j : Int) (t u : Tok) (s : Shared) (Q : Value → Shared → Prop) (E : Value → Shared → Prop), Q (.int (g i j) s.toks) { s with toks := s.toks + 1 } → wpAny (model X.prog X.w) X.A (f (.int i t) (.int j u)) Q E s) :
    OpR X f (rI0 fun i j => .int (g i j)) := by
  intro pins s σ H x y v u Q I rx ry h
  obtain ⟨i, j, rfl, rfl, q⟩ := h
  obtain ⟨t, rfl⟩ := rx
  obtain ⟨t', rfl⟩ := ry
  exact rule i j t t' s _ _ ⟨.int (g i j), H, I.tok _, ⟨_, rfl⟩, q⟩
theorem opB0 {f : Value → Value → Sem Value} {g : Int → Int → Bool}
    (rule : ∀ (i j : Int) (t u : Tok) (s : Shared) (Q : Value → Shared → Prop) (E : Value → Shared → Prop), Q (.bool (g i j)) s → wpAny (model X.prog X.w) X.A (f (.int i t) (.int j u)) Q E s) :
    OpR X f (rI0 fun i j => .bl (g i j)) := by
  intro pins s σ H x y v u Q I rx ry h
  obtain ⟨i, j, rfl, rfl, q⟩ := h
  obtain ⟨t, rfl⟩ := rx
  obtain ⟨t', rfl⟩ := ry
  exact rule i j t t' s _ _ ⟨.bl (g i j), H, I, rfl, q⟩
def CDiv (i j : Int) : Prop := 0 < j ∧ j < 1073741824
def CMul (i j : Int) : Prop := (-(2 ^ 64) < i ∧ i < 2 ^ 64) ∨ (-(2 ^ 64) < j ∧ j < 2 ^ 64)
theorem CMul.ok {i j : Int} (h : CMul i j) : IntMulOk i j := by
  rcases h with ⟨h1, h2⟩ | ⟨h1, h2⟩
  · exact .of_left (intBits_le_64 h1 h2)
  · exact .of_right (intBits_le_64 h1 h2)
theorem op_add : OpR X (binaryOp .Add) (rI0 fun i j => .int (i + j)) := opI0 fun _ _ _ _ _ _ _ q => add_int q
theorem op_sub : OpR X (binaryOp .Sub) (rI0 fun i j => .int (i - j)) := opI0 fun _ _ _ _ _ _ _ q => sub_int q
theorem op_fdiv : OpR X (binaryOp .FloorDiv) (rI CDiv fun i j => .int (i / j)) := opI fun i j _ _ _ _ _ hc q => by
  have h1 : (0 : Int) < j := hc.1
  have h2 : j < 1073741824 := hc.2
  exact floordiv_int (by omega) (by rw [Int.fdiv_eq_ediv_of_nonneg i (by omega)]; exact q) (.inl (PyProof.noPylong_small (by omega)))
theorem op_mod : OpR X (binaryOp .Mod) (rI (fun _ j => 0 < j) fun i j => .int (i % j)) := opI fun i j _ _ _ _ _ hc q => by
  have h1 : (0 : Int) < j := hc
  exact mod_int' (by omega) (by rw [Int.fmod_eq_emod_of_nonneg i (by omega)]; exact q)
theorem unI {f : Value → Sem Value} {g : Int → Int}
    (rule : ∀ (i : Int) (t : Tok) (s : Shared) (Q : Value → Shared → Prop) (E : Value → Shared → Prop), Q (.int (g i) s.toks) { s with toks := s.toks + 1 } → wpAny (model X.prog X.w) X.A (f (.int i t)) Q E s) :
    UnR X f (rU fun i => .int (g i)) := by
  intro pins s σ H x v Q I rx h
  obtain ⟨i, rfl, q⟩ := h
  obtain ⟨t, rfl⟩ := rx
  exact rule i t s _ _ ⟨.int (g i), H, I.tok _, ⟨_, rfl⟩, q⟩
theorem un_neg : UnR X (unaryOp .USub) (rU fun i => .int (-i)) := unI fun _ _ _ _ _ q => neg_int q
end
def scal : V → V → Bool
  | .non, .non => true | .non, .int _ => true | .int _, .non => true | .non, .bl _ => true | .bl _, .non => true | .non, .str _ => true | .str _, .non => true
  | .int _, .int _ => true | .bl _, .bl _ => true | .str _, .str _ => true | .byt _, .byt _ => true
  | .int _, .str _ => true | .str _, .int _ => true | .bl _, .str _ => true | .str _, .bl _ => true
  | _, _ => false
def rEq : R2 := fun x y H Q => scal x y = true ∧ Q (.bl (decide (x = y))) H
def rNe : R2 := fun x y H Q => scal x y = true ∧ Q (.bl (!decide (x = y))) H
theorem dec_int {i j : Int} : decide (V.int i = V.int j) = (i == j) := by
  rw [Bool.eq_iff_iff]
  simp
theorem dec_bl {i j : Bool} : decide (V.bl i = V.bl j) = (i == j) := by
  rw [Bool.eq_iff_iff]
  simp
theorem dec_str {i j : Str} : decide (V.str i = V.str j) = (i == j) := by
  rw [Bool.eq_iff_iff]
  simp
theorem dec_byt {i j : Array UInt8} : decide (V.byt i = V.byt j) = (i.toList == j.toList) := by
  rw [Bool.eq_iff_iff]
  cases i
  cases j
  simp
section
variable {X : Cx} {a b c : Expr} {ta tb tc : TE} {pos : Pos}
theorem fin_bl {pins : List (Addr × Obj)} {σ : St} {H : Hp} {s : Shared} {Q : VK} {k k' : Bool} (I : Inv X pins σ H s) (q : Q (.bl k) H) (e : k = k') : EP X pins σ Q (.bool k') s := by
  subst e
  exact ⟨.bl k, H, I, rfl, q⟩
theorem op_eq : OpR X (compareOp .Eq) rEq := by
  intro pins s σ H x y v u Q I rx ry h
  obtain ⟨hs, q⟩ := h
  cases x with
  | non =>
    cases rx
    cases y with
    | non => cases ry; exact PySem.EqNone.eq_none_none (fin_bl I q (by simp))
    | bl j => cases ry; exact PySem.EqNone.eq_none_bool (fin_bl I q (by simp))
    | int j => obtain ⟨t', rfl⟩ := ry; exact PySem.EqNone.eq_none_int (fin_bl I q (by simp))
    | str j => obtain ⟨t', rfl⟩ := ry; exact PySem.EqNone.eq_none_str (fin_bl I q (by simp))
    | _ => exact absurd (show false = true from hs) Bool.false_ne_true
  | bl i =>
    cases rx
    cases y with
    | non => cases ry; exact PySem.EqNone.eq_bool_none (fin_bl I q (by simp))
    | bl j => cases ry; exact eq_bool (fin_bl I q dec_bl)
    | str j => obtain ⟨t', rfl⟩ := ry; exact PySem.EqMixed.eq_bool_str (fin_bl I q (by simp))
    | _ => exact absurd (show false = true from hs) Bool.false_ne_true
  | int i =>
    obtain ⟨t, rfl⟩ := rx
    cases y with
    | non => cases ry; exact PySem.EqNone.eq_int_none (fin_bl I q (by simp))
    | int j => obtain ⟨t', rfl⟩ := ry; exact eq_int (fin_bl I q dec_int)
    | str j => obtain ⟨t', rfl⟩ := ry; exact PySem.EqMixed.eq_int_str (fin_bl I q (by simp))
    | _ => exact absurd (show false = true from hs) Bool.false_ne_true
  | str i =>
    obtain ⟨t, rfl⟩ := rx
    cases y with
    | non => cases ry; exact PySem.EqNone.eq_str_none (fin_bl I q (by simp))
    | bl j => cases ry; exact PySem.EqMixed.eq_str_bool (fin_bl I q (by simp))
    | int j => obtain ⟨t', rfl⟩ := ry; exact PySem.EqMixed.eq_str_int (fin_bl I q (by simp))
    | str j => obtain ⟨t', rfl⟩ := ry; exact eq_str (fin_bl I q dec_str)
    | _ => exact absurd (show false = true from hs) Bool.false_ne_true
  | byt i =>
    obtain ⟨t, rfl⟩ := rx
    cases y with
    | byt j => obtain ⟨t', rfl⟩ := ry; exact PySem.W.eq_bytes (fin_bl I q dec_byt)
    | _ => exact absurd (show false = true from hs) Bool.false_ne_true
  | _ => cases y <;> exact absurd (show false = true from hs) Bool.false_ne_true
theorem op_ne : OpR X (compareOp .NotEq) rNe := by
  intro pins s σ H x y v u Q I rx ry h
  obtain ⟨hs, q⟩ := h
  cases x with
  | non =>
    cases rx
    cases y with
    | non => cases ry; exact PySem.EqNone.ne_none_none (fin_bl I q (by simp))
    | bl j => cases ry; exact PySem.EqNone.ne_none_bool (fin_bl I q (by simp))
    | int j => obtain ⟨t', rfl⟩ := ry; exact PySem.EqNone.ne_none_int (fin_bl I q (by simp))
    | str j => obtain ⟨t', rfl⟩ := ry; exact PySem.EqNone.ne_none_str (fin_bl I q (by simp))
    | _ => exact absurd (show false = true from hs) Bool.false_ne_true
  | bl i =>
    cases rx
    cases y with
    | non => cases ry; exact PySem.EqNone.ne_bool_none (fin_bl I q (by simp))
    | bl j => cases ry; exact ne_bool (fin_bl I q (congrArg not dec_bl))
    | str j => obtain ⟨t', rfl⟩ := ry; exact PySem.EqMixed.ne_bool_str (fin_bl I q (by simp))
    | _ => exact absurd (show false = true from hs) Bool.false_ne_true
  | int i =>
    obtain ⟨t, rfl⟩ := rx
    cases y with
    | non => cases ry; exact PySem.EqNone.ne_int_none (fin_bl I q (by simp))
    | int j => obtain ⟨t', rfl⟩ := ry; exact ne_int (fin_bl I q (congrArg not dec_int))
    | str j => obtain ⟨t', rfl⟩ := ry; exact PySem.EqMixed.ne_int_str (fin_bl I q (by simp))
    | _ => exact absurd (show false = true from hs) Bool.false_ne_true
  | str i =>
    obtain ⟨t, rfl⟩ := rx
    cases y with
    | non => cases ry; exact PySem.EqNone.ne_str_none (fin_bl I q (by simp))
    | bl j => cases ry; exact PySem.EqMixed.ne_str_bool (fin_bl I q (by simp))
    | int j => obtain ⟨t', rfl⟩ := ry; exact PySem.EqMixed.ne_str_int (fin_bl I q (by simp))
    | str j => obtain ⟨t', rfl⟩ := ry; exact ne_str (fin_bl I q (congrArg not dec_str))
    | _ => exact absurd (show false = true from hs) Bool.false_ne_true
  | byt i =>
    obtain ⟨t, rfl⟩ := rx
    cases y with
    | byt j => obtain ⟨t', rfl⟩ := ry; exact PySem.W.ne_bytes (fin_bl I q (congrArg not dec_byt))
    | _ => exact absurd (show false = true from hs) Bool.false_ne_true
  | _ => cases y <;> exact absurd (show false = true from hs) Bool.false_ne_true
theorem op_lt : OpR X (compareOp .Lt) (rI0 fun i j => .bl (decide (i < j))) := opB0 fun _ _ _ _ _ _ _ q => lt_int q
theorem op_le : OpR X (compareOp .LtE) (rI0 fun i j => .bl (decide (i ≤ j))) := opB0 fun _ _ _ _ _ _ _ q => le_int q
theorem op_gt : OpR X (compareOp .Gt) (rI0 fun i j => .bl (decide (j < i))) := opB0 fun _ _ _ _ _ _ _ q => gt_int q
theorem op_ge : OpR X (compareOp .GtE) (rI0 fun i j => .bl (decide (j ≤ i))) := opB0 fun _ _ _ _ _ _ _ q => ge_int q
theorem OpR.or {f : Value → Value → Sem Value} {r r' : R2} (h : OpR X f r) (h' : OpR X f r') : OpR X f (fun x y H Q => r x y H Q ∨ r' x y H Q) := by
  intro pins s σ H x y v u Q I rx ry q
  rcases q with q | q
  · exact h pins s σ H x y v u Q I rx ry q
  · exact h' pins s σ H x y v u Q I rx ry q
theorem nomark (b : Expr) {op : CmpOp} (h : op ≠ .In := by decide) (h2 : op ≠ .NotIn := by decide) : behindInMarks op b = false := by
  have e1 : (op == CmpOp.In) = false := by cases op <;> first | rfl | exact absurd rfl h
  have e2 : (op == CmpOp.NotIn) = false := by cases op <;> first | rfl | exact absurd rfl h2
  cases b <;> simp [behindInMarks, e1, e2]
theorem pe_cmpR {op : CmpOp} {r : R2} (ho : OpR X (compareOp op) r) (ha : PE X a ta) (hb : PE X b tb) (hm : behindInMarks op b = false) : PE X (.Compare a [op] [b] pos) (tOp r ta tb) := by
  intro pins s σ H Q I h
  exact wpAny_Compare1 (binT ha hb I h fun v u s2 x y H2 I2 rx ry q => ho pins s2 σ H2 x y v u Q I2 rx ry q) hm
def tTest (t : TE) : TT := fun σ H Q => t σ H fun x H' => ∃ k, x = .bl k ∧ Q k H'
theorem pt_cmpR {op : CmpOp} {r : R2} (ho : OpR X (compareOp op) r) (ha : PE X a ta) (hb : PE X b tb) (hm : behindInMarks op b = false) : PT X (.Compare a [op] [b] pos) (tTest (tOp r ta tb)) := by
  intro pins s σ H Q I h
  refine wpAny_isTrue_Compare1 (thn (ha pins s σ H _ I h) fun v s1 ⟨x, H1, I1, r1, q1⟩ => thn (hb pins s1 σ H1 _ I1 q1) fun u s2 ⟨y, H2, I2, r2, q2⟩ =>
    thn (ho pins s2 σ H2 x y v u _ I2 r1 r2 q2) fun c s3 ⟨z, H3, I3, r3, k, e, q3⟩ => ?_) hm
  subst e
  cases r3
  exact wpAny_truthy_bool ⟨H3, I3, q3⟩
theorem line63 : (sizeLine : Nat) < 2 ^ 63 := by rw [sizeLine_eq]; decide
theorem op_add_str : OpR X (binaryOp .Add) (fun x y H Q => ∃ i j, x = .str i ∧ y = .str j ∧ i.length + j.length ≤ sizeLine ∧ Q (.str (i ++ j)) H) := by
  intro pins s σ H x y v u Q I rx ry h
  obtain ⟨i, j, rfl, rfl, hz, q⟩ := h
  obtain ⟨t, rfl⟩ := rx
  obtain ⟨t', rfl⟩ := ry
  exact add_str (fun t' tk => ⟨.str (i ++ j), H, I.tok _, ⟨_, rfl⟩, q⟩) hz
theorem vals1 {x : V} {us : List Value} (r : Vals [x] us) : ∃ u, us = [u] ∧ RelV x u := by
  cases r with
  | cons r1 r2 => cases r2; exact ⟨_, rfl, r1⟩
theorem vals2 {x y : V} {us : List Value} (r : Vals [x, y] us) : ∃ u w', us = [u, w'] ∧ RelV x u ∧ RelV y w' := by
  cases r with
  | cons r1 r2 =>
    cases r2 with
    | cons r3 r4 => cases r4; exact ⟨_, _, rfl, r1, r3⟩
theorem call_min2 (hc : X.calm = true) : CallR X (.builtin "min") (fun xs H Q => ∃ i j, xs = [.int i, .int j] ∧ Q (.int (if j < i then j else i)) H) := by
  intro pins s σ H xs us Q I r h
  obtain ⟨i, j, rfl, q⟩ := h
  obtain ⟨u, w', rfl, ⟨t, rfl⟩, ⟨t', rfl⟩⟩ := vals2 r
  refine min_two_ints (I.ok.hd hc) fun h' tk k => ⟨_, H, I.kept k, ?_, q⟩
  by_cases hj : j < i
  · rw [if_pos hj, if_pos hj]; exact ⟨_, rfl⟩
  · rw [if_neg hj, if_neg hj]; exact ⟨_, rfl⟩
theorem call_int1 : CallR X (.type "int") (fun xs H Q => (∃ i, xs = [.int i] ∧ Q (.int i) H) ∨ ∃ k, xs = [.bl k] ∧ Q (.int (if k then 1 else 0)) H) := by
  intro pins s σ H xs us Q I r h
  rcases h with ⟨i, rfl, q⟩ | ⟨k, rfl, q⟩
  · obtain ⟨u, rfl, t, rfl⟩ := vals1 r
    exact call_int_int ⟨.int i, H, I, ⟨_, rfl⟩, q⟩
  · obtain ⟨u, rfl, r1⟩ := vals1 r
    cases r1
    exact call_int_bool ⟨.int (if k then 1 else 0), H, I.tok _, ⟨_, rfl⟩, q⟩
end
end L2
namespace L2
open PySem PySem.Spec PyProof.Rows
structure ObjM (h : Heap) (x dx C : Addr) (mA : Str → Option Value) : Prop where
  obj : h.get? x = some (PySem.W.instObj C dx)
  ns : h.Ns1 dx mA
  ne : dx ≠ x
theorem lookIn_ns {h : Heap} {dx : Addr} {mA : Str → Option Value} (n : h.Ns1 dx mA) : ∃ od, h.get? dx = some od ∧ ∀ name, PySem.W.lookIn name od = some (mA name) := by
  obtain ⟨o, es, ep, ho, hd, hk, _, hm⟩ := n
  refine ⟨o, ho, fun name => ?_⟩
  have e := hm name
  unfold nsFind findBy at e
  rw [← Array.find?_toList] at e
  unfold PySem.W.lookIn
  rw [hd]
  dsimp only
  split
  · rename_i y q
    rw [q] at e
    exact congrArg some e
  · rename_i q
    rw [q] at e
    have a : es.toList.any (·.refKey) = false := by
      rw [List.any_eq_false]
      intro y hy
      obtain ⟨z, t, hkey⟩ := hk y (Array.mem_toList_iff.mp hy)
      simp [DictEntry.refKey, hkey]
    have a' : ¬ es.toList.any (·.refKey) = true := by rw [a]; exact Bool.false_ne_true
    rw [if_neg a']
    exact congrArg some e
theorem ObjM.look {h : Heap} {x dx C : Addr} {mA : Str → Option Value} (I : ObjM h x dx C mA) : ∃ od, PySem.W.InstAt h x (PySem.W.instObj C dx) C (some od) ∧ ∀ name, PySem.W.lookIn name od = some (mA name) :=
  let ⟨od, ho, hl⟩ := lookIn_ns I.ns
  ⟨od, ⟨I.obj, rfl, rfl, ho⟩, hl⟩
section
variable {prog : Program} {w : World} {A : Around} {E : Value → Shared → Prop} {s : Shared} {K : PySem.W.Frag} {x dx C f : Addr} {mA : Str → Option Value} {name : Str} {v : Value}
end
section
variable {P : Program} {w : World} {H H' : Hp} {h h' : Heap} {a C dx : Addr} {fs fs' : List (Str × V)}
theorem ins_get (hok : HOk P w H h) (e : H a = some (.ins C dx fs)) : ∃ mA, ObjM h a dx C mA ∧ (∀ f, RelO (fs.lookup f) (mA f)) ∧ PySem.Within mA (fs.map (·.1)) ∧ fs.length ≤ 1000 ∧ H dx = some (.own a) := by
  obtain ⟨d, z, ne, ob, mA, n, r, q⟩ := (show ObjOk P w H h a (.ins C dx fs) from hok a _ e)
  exact ⟨mA, ⟨ob, n, ne⟩, r, q, z, d⟩
end
structure Cls (K : PySem.W.Frag) (C : Addr) : Prop where
  pg : PySem.W.plainGet K C Str.empty = true
  hd : PySem.W.hasDictIn K C = true
  po : PySem.W.plainOver K C = true
  sa : PySem.W.findIn K (.ref C) "__setattr__" = some (some (.builtin "object.__setattr__"))
theorem Cls.get {K : PySem.W.Frag} {C : Addr} (c : Cls K C) (f : Str) : PySem.W.plainGet K C f = true := c.pg
section
variable {X : Cx} {pins : List (Addr × Obj)} {σ : St} {H : Hp} {s : Shared} {a C dx : Addr} {fs : List (Str × V)} {f : Str} {v : V} {A : Around} {E : Value → Shared → Prop}
theorem Inv.made (I : Inv X pins σ H s) : Inv X pins σ (upd (upd H s.heap.objs.size (.own (s.heap.objs.size + 1))) (s.heap.objs.size + 1) (.ins C s.heap.objs.size []))
    { s with heap := (s.heap.push PySem.W.emptyDict).push (PySem.W.instObj C s.heap.objs.size) } := by
  have e1 : (s.heap.push PySem.W.emptyDict).get? s.heap.objs.size = some PySem.W.emptyDict := Heap.get?_push_size s.heap rfl
  have e2 : ((s.heap.push PySem.W.emptyDict).push (PySem.W.instObj C s.heap.objs.size)).get? (s.heap.objs.size + 1) = some (PySem.W.instObj C s.heap.objs.size) := by
    have := Heap.get?_push_size (s.heap.push PySem.W.emptyDict) (o := PySem.W.instObj C s.heap.objs.size) rfl
    rwa [Heap.size_push] at this
  have e3 : (s.heap.push PySem.W.emptyDict).Ns s.heap.objs.size (fun _ => none) := ⟨PySem.W.emptyDict, #[], _, e1, rfl, (fun e he => absurd he (by simp)), fun _ => rfl⟩
  have I1 := I.laid (a := s.heap.objs.size) (o := .own (s.heap.objs.size + 1)) (h' := s.heap.push PySem.W.emptyDict) (t' := s.toks) (fun b u q => Heap.get?_push_of_some _ q) (Nat.le_refl _) ⟨_, e1⟩
  refine I1.laid (a := s.heap.objs.size + 1) (o := .ins C s.heap.objs.size []) (t' := s.toks) (fun b u q => Heap.get?_push_of_some _ q) (Nat.le_of_eq (Heap.size_push _ _)) ?_
  have ne : s.heap.objs.size ≠ s.heap.objs.size + 1 := Nat.ne_of_lt (Nat.lt_succ_self _)
  refine ⟨by rw [upd_ne ne, upd_same], Nat.zero_le _, ne, e2, fun _ => none, (Heap.Ns1.of_empty e3).at fun o q => Heap.get?_push_of_some _ q, fun _ => True.intro, fun y hy => absurd rfl hy⟩
end
section
variable {X : Cx} {o e value : Expr} {f : Str} {pos pos' tpos : Pos} {ta tv : TE}
end
section
variable {X : Cx} {pins : List (Addr × Obj)} {σ : St} {H : Hp} {s : Shared} {A : Around} {E : Value → Shared → Prop} {Q : Value → Shared → Prop} {c : Value} {b : Bool}
inductive TyOf (K : PySem.W.Frag) (H : Hp) : V → Value → Prop where
  | non : TyOf K H .non (.type "NoneType")
  | bl (x : Bool) : TyOf K H (.bl x) (.type "bool")
  | int (i : Int) : TyOf K H (.int i) (.type "int")
  | str (x : Str) : TyOf K H (.str x) (.type "str")
  | flt (x : UInt64) : TyOf K H (.flt x) (.type "float")
  | lst {a : Addr} {xs : List V} (e : H a = some (.lst xs)) : TyOf K H (.ref a) (.type "list")
  | frz {a : Addr} {o : Obj} {xs : List V} (e : H a = some (.frz o (.lst xs))) : TyOf K H (.ref a) (.type "list")
  | tup {a : Addr} {xs : List V} (e : H a = some (.tup xs)) : TyOf K H (.ref a) (.type "tuple")
  | dK {a : Addr} {kvs : List (Key × V)} (e : H a = some (.dK kvs)) : TyOf K H (.ref a) (.type "dict")
  | dT {a : Addr} {kvs : List (List Key × V)} (e : H a = some (.dT kvs)) : TyOf K H (.ref a) (.type "dict")
  | ins {a C dx : Addr} {fs : List (Str × V)} (e : H a = some (.ins C dx fs)) (cl : Cls K C) (ha : PySem.W.findIn K (.ref C) "__class__" = some (some (.builtin "object.__class__")))
      (hn : PySem.W.specialIn K (.builtin "object.__class__") "__get__" = some (some (.builtin "getset_descriptor.__get__"))) (htk : PySem.W.takesIn K (.builtin "object.__class__") = some true)
      (hm : PySem.W.mroIn K C (.type "object") = some true) : TyOf K H (.ref a) (.ref C)
theorem isinst_ok {x : V} {u t : Value} (I : Inv X pins σ H s) (rx : RelV x u) (ty : TyOf X.K H x t) (e : PySem.W.kitOne X.K t c = some b) (h : ∀ tk, Q (.bool b) { s with toks := tk }) :
    wpAny (model X.prog X.w) A (call (.builtin "isinstance") [u, c]) Q E s := by
  cases ty with
  | non => cases (show u = Value.none from rx); exact PySem.W.kia_one PySem.W.kitx_none I.kIn True.intro e (fun z => nomatch z) h
  | bl y => cases (show u = Value.bool y from rx); exact PySem.W.kia_one PySem.W.kitx_bool I.kIn True.intro e (fun z => nomatch z) h
  | int i => obtain ⟨t, q⟩ := (show ∃ t, u = Value.int i t from rx); cases q; exact PySem.W.kia_one PySem.W.kitx_int I.kIn True.intro e (fun z => nomatch z) h
  | str y => obtain ⟨t, q⟩ := (show ∃ t, u = Value.str y t from rx); cases q; exact PySem.W.kia_one PySem.W.kitx_str I.kIn True.intro e (fun z => nomatch z) h
  | flt y => obtain ⟨t, q⟩ := (show ∃ t, u = Value.float y t from rx); cases q; exact PySem.W.kia_one PySem.W.kitx_float I.kIn True.intro e (fun z => nomatch z) h
  | @lst a xs ea =>
    cases (show u = Value.ref a from rx)
    obtain ⟨_, _, n, _, h1⟩ := (show ObjOk X.prog X.w H s.heap a (.lst xs) from I.hok a _ ea)
    exact PySem.W.kia_one PySem.W.kitx_list I.kIn ⟨_, h1, rfl⟩ e (fun z => nomatch z) h
  | @frz a ob xs ea =>
    cases (show u = Value.ref a from rx)
    obtain ⟨_, _, _, n, _, h1⟩ := (show ObjOk X.prog X.w H s.heap a (.frz ob (.lst xs)) from I.hok a _ ea)
    exact PySem.W.kia_one PySem.W.kitx_list I.kIn ⟨_, h1, rfl⟩ e (fun z => nomatch z) h
  | @tup a xs ea =>
    cases (show u = Value.ref a from rx)
    obtain ⟨_, _, _, p⟩ := (show ObjOk X.prog X.w H s.heap a (.tup xs) from I.hok a _ ea)
    obtain ⟨o, h1, h2, _⟩ := p
    exact PySem.W.kia_one PySem.W.kitx_tuple I.kIn ⟨o, h1, h2⟩ e (fun z => nomatch z) h
  | @dK a kvs ea =>
    cases (show u = Value.ref a from rx)
    obtain ⟨_, _, vs, _, p⟩ := (show ObjOk X.prog X.w H s.heap a (.dK kvs) from I.hok a _ ea)
    obtain ⟨o, es, ep, h1, h2, _⟩ := p
    exact PySem.W.kia_one PySem.W.kitx_dict I.kIn ⟨o, h1, h2.1⟩ e (fun z => nomatch z) h
  | @dT a kvs ea =>
    cases (show u = Value.ref a from rx)
    obtain ⟨_, _, xs, _, o, es, ep, h1, h2, _⟩ := (show ObjOk X.prog X.w H s.heap a (.dT kvs) from I.hok a _ ea)
    exact PySem.W.kia_one PySem.W.kitx_dict I.kIn ⟨o, h1, h2.1⟩ e (fun z => nomatch z) h
  | @ins a C dx fs ea cl ha hn htk hm =>
    cases (show u = Value.ref a from rx)
    obtain ⟨mA, O, _⟩ := ins_get I.hok ea
    obtain ⟨od, J, _⟩ := O.look
    exact PySem.W.kia_one (PySem.W.kitx_own (cl.get _) cl.hd ha hn htk hm) I.kIn J e (fun z => nomatch z) h
end
end L2
namespace L2
open PySem PySem.Spec PyProof.Rows
structure Room (k : Nat) (A : Around) : Prop where
  hd : A.handled = none
  dp : A.depth + 3 * k + 5 < recursionLimit
  un : A.units + 16 * k + 200 < cLine
theorem Room.mono {j k : Nat} {A : Around} (r : Room k A) (h : j ≤ k) : Room j A := ⟨r.hd, by have := r.dp; omega, by have := r.un; omega⟩
theorem Room.deeper {k : Nat} {A : Around} (r : Room (k + 1) A) (env : Env) : Room k (A.deeper env) :=
  ⟨r.hd, by have := r.dp; show A.depth + 1 + 3 * k + 5 < _; omega, by have := r.un; show A.units + 3 + 16 * k + 200 < _; omega⟩
theorem Room.in1 {k : Nat} {A : Around} (r : Room (k + 1) A) : Room k A.in1 :=
  ⟨r.hd, by have := r.dp; show A.depth + 3 * k + 5 < _; omega, by have := r.un; show A.units + 1 + 16 * k + 200 < _; omega⟩
theorem Room.depth {k : Nat} {A : Around} (r : Room k A) : A.depth < recursionLimit := by have := r.dp; omega
theorem Room.units {k : Nat} {A : Around} (r : Room k A) : A.units + 64 < cLine := by have := r.un; omega
def tNil : TA := fun _ H Q => Q [] H
def tCons (ta : TE) (tr : TA) : TA := fun σ H Q => ta σ H fun x H1 => tr σ H1 fun xs H2 => Q (x :: xs) H2
section
variable {X : Cx} {e : Expr} {es : List Expr} {te : TE} {t : TA} {pos : Pos}
theorem pa_nil : PA X [] tNil := fun _ _ _ _ H Q I h => Calls.spliced_nil ⟨[], H, I, .nil, h⟩
theorem pa_cons (ha : PE X e te) (hr : PA X es t) (hs : starEach (e :: es) X.env = (false, eval e X.env) :: starEach es X.env := by rfl) : PA X (e :: es) (tCons te t) := by
  intro pos pins s σ H Q I h
  rw [hs]
  show wpAny _ _ (spliced ((false, eval e X.env) :: backTo pos (starEach es X.env))) _ _ s
  refine Calls.spliced_cons (thn (ha pins s σ H _ I h) fun u s1 ⟨x, H1, I1, r1, q1⟩ => ?_)
  exact thn (hr pos pins s1 σ H1 _ I1 q1) fun us s2 ⟨xs, H2, I2, r2, q2⟩ => ⟨x :: xs, H2, I2, .cons r1 r2, q2⟩
def tTup (t : TA) : TE := fun σ H Q => t σ H fun xs H1 => xs.length ≤ sizeLine ∧ ∀ p, H1 p = none → Q (.ref p) (upd H1 p (.tup xs))
def tLst (t : TA) : TE := fun σ H Q => t σ H fun xs H1 => xs.length ≤ sizeLine ∧ ∀ p, H1 p = none → Q (.ref p) (upd H1 p (.lst xs))
theorem pe_tup {x1} (h : PA X es t) : PE X (.Tuple es x1 pos) (tTup t) := by
  intro pins s σ H Q I hq
  refine wpAny_Tuple_spliced (thn (h pos pins s σ H _ I hq) fun us s1 ⟨xs, H1, I1, r, z, q⟩ => ⟨by rw [← r.length]; exact z, ?_⟩)
  have hf : H1 s1.heap.objs.size = none := I1.hok.fresh (Nat.le_refl _)
  refine ⟨.ref s1.heap.objs.size, upd H1 s1.heap.objs.size (.tup xs), I1.laid (t' := s1.toks) (fun b u e => Heap.get?_push_of_some _ e) (Nat.le_refl _) ?_, rfl, q _ hf⟩
  exact ⟨z, us, r, ⟨_, Heap.get?_push_size _ rfl, rfl, _, rfl⟩⟩
theorem pe_lst (h : PA X es t) : PE X (.List es pos) (tLst t) := by
  intro pins s σ H Q I hq
  refine wpAny_List_spliced (thn (h pos pins s σ H _ I hq) fun us s1 ⟨xs, H1, I1, r, z, q⟩ => ⟨by rw [← r.length]; exact z, ?_⟩)
  have hf : H1 s1.heap.objs.size = none := I1.hok.fresh (Nat.le_refl _)
  refine ⟨.ref s1.heap.objs.size, upd H1 s1.heap.objs.size (.lst xs), I1.laid (t' := s1.toks) (fun b u e => Heap.get?_push_of_some _ e) (Nat.le_refl _) ?_, rfl, q _ hf⟩
  exact ⟨z, us, 0, r, Heap.get?_push_size _ rfl⟩
end
abbrev Sp := List V → Hp → VK → XK → Prop
abbrev CXT := List Env → Hp → Shared → XK → Value → Shared → Prop
structure Env0 (P : Program) (w : World) (K : PySem.W.Frag) (mg : Str → Option Value) (base : Heap) (A : Around) (outer : List Env) (s : Shared) (H : Hp) : Prop where
  frames : A.frames = some outer
  mod : Mod K mg base
  bs : ∀ b o, base.get? b = some o → s.heap.get? b = some o ∧ H b = none
  bsz : base.objs.size ≤ s.heap.objs.size
  funs : s.heap.FunFrames base outer
  frf : ∀ b ∈ frs outer, H b = none
  hok : HOk P w H s.heap
  bare : AllBare s.gens
def CE (outer : List Env) (P : Program) (w : World) (H : Hp) (s : Shared) (Q : VK) (u : Value) (s' : Shared) : Prop :=
  ∃ v H', s'.os = s.os ∧ AllBare s'.gens ∧ Un (frs outer) [] H H' s.heap s'.heap ∧ HOk P w H' s'.heap ∧ RelV v u ∧ Q v H'
def CR (CX : CXT) (outer : List Env) (P : Program) (w : World) (H : Hp) (s : Shared) (Q : VK) (E : XK) (r : Result) (s' : Shared) : Prop :=
  match r with
  | .ok (.ret u) => CE outer P w H s Q u s'
  | .ok _ => False
  | .error e => CX outer H s E e s'
structure FnOk (P : Program) (w : World) (K : PySem.W.Frag) (mg : Str → Option Value) (base : Heap) (CX : CXT) (k : Nat) (f : Addr) (fd : FuncData) (ps : List Str) (sp : Sp) : Prop where
  len : ∀ vs H Q E, sp vs H Q E → vs.length = ps.length
  run : ∀ (A : Around) (outer : List Env) (s : Shared) (H : Hp) (args : Args) (us : List Value) (vs : List V) (Q : VK) (E : XK), Room k A → Env0 P w K mg base A outer s H → BindsTo s fd args (ps.zip us) → Vals vs us → sp vs H Q E →
    codeAny (model P w) A (.call (.ref f) args) (CR CX outer P w H s Q E) s
theorem FnOk.mono {P : Program} {w : World} {K : PySem.W.Frag} {mg : Str → Option Value} {base : Heap} {CX : CXT} {j k : Nat} {f : Addr} {fd : FuncData} {ps : List Str} {sp : Sp} (F : FnOk P w K mg base CX j f fd ps sp) (h : j ≤ k) :
    FnOk P w K mg base CX k f fd ps sp := ⟨F.len, fun A outer s H args us vs Q E hr => F.run A outer s H args us vs Q E (hr.mono h)⟩
theorem FnOk.imp {P : Program} {w : World} {K : PySem.W.Frag} {mg : Str → Option Value} {base : Heap} {CX : CXT} {k : Nat} {f : Addr} {fd : FuncData} {ps : List Str} {sp sp' : Sp} (F : FnOk P w K mg base CX k f fd ps sp)
    (h : ∀ vs H Q E, sp' vs H Q E → sp vs H Q E) : FnOk P w K mg base CX k f fd ps sp' :=
  ⟨fun vs H Q E q => F.len vs H Q E (h _ _ _ _ q), fun A outer s H args us vs Q E hr he hb hv hs => F.run A outer s H args us vs Q E hr he hb hv (h _ _ _ _ hs)⟩
theorem Env0.in1 {P : Program} {w : World} {K : PySem.W.Frag} {mg : Str → Option Value} {base : Heap} {A : Around} {outer : List Env} {s : Shared} {H : Hp} (e : Env0 P w K mg base A outer s H) :
    Env0 P w K mg base A.in1 outer s H := ⟨e.frames, e.mod, e.bs, e.bsz, e.funs, e.frf, e.hok, e.bare⟩
section
variable {X : Cx} {pins : List (Addr × Obj)} {σ : St} {H : Hp} {s s' : Shared}
theorem Inv.env0 (I : Inv X pins σ H s) : Env0 X.prog X.w X.K X.mg X.base X.A X.stack s H :=
  ⟨I.ok.frames, I.ok.mod, I.bs, Nat.le_trans I.ok.bsz I.sz, I.stack, I.stkFree, I.hok, I.bare⟩
theorem Inv.after {Q : VK} {u : Value} (I : Inv X pins σ H s) (h : CE X.stack X.prog X.w H s Q u s') : EP X pins σ Q u s' := by
  obtain ⟨v, H', os, bare, un, hok, r, q⟩ := h
  obtain ⟨hh, g, d, t, os'⟩ := s'
  obtain rfl : os' = s.os := os
  exact ⟨v, H', I.call (h' := hh) (g' := g) (d' := d) (t' := t) (ch := []) un hok bare (fun b z => absurd z (by simp)), r, q⟩
end
def tCall (sp : Sp) (dvs : List V) (E : XK) (t : TA) : TE := fun σ H Q => t σ H fun vs H1 => sp (vs ++ dvs) H1 Q E
def Binds (K : PySem.W.Frag) (fd : FuncData) (ps : List Str) (ds : List Value) : Prop :=
  ∀ (s : Shared) (us : List Value), K.In s.heap → (us ++ ds).length = ps.length → BindsTo s fd ⟨us, []⟩ (ps.zip (us ++ ds))
theorem Binds.all {K : PySem.W.Frag} {fd : FuncData} {ps : List Str} (h : ∀ us : List Value, us.length = ps.length → bindArgs fd ⟨us, []⟩ = pure (ps.zip us)) : Binds K fd ps [] := fun s us _ hl => by
  rw [List.append_nil] at hl ⊢
  exact .of_eq (h us hl)
def Passes (CX : CXT) (X : Cx) (E : XK) : Prop := ∀ (pins : List (Addr × Obj)) (σ : St) (H : Hp) (s : Shared) (e : Value) (s' : Shared), Inv X pins σ H s → CX X.stack H s E e s' → X.xe e s'
section
variable {X : Cx} {CX : CXT} {k : Nat} {f C : Addr} {fd : FuncData} {ps : List Str} {sp : Sp} {dvs : List V} {ds : List Value} {E : XK} {x m : Str} {p pos apos : Pos} {e o : Expr} {es : List Expr} {ta : TE} {t : TA}
theorem run_fn {pins : List (Addr × Obj)} {σ : St} {H : Hp} {s : Shared} {Q : VK} {us : List Value} {vs : List V} (F : FnOk X.prog X.w X.K X.mg X.base CX k f fd ps sp) (hr : Room k X.A) (hb : Binds X.K fd ps ds) (hd : Vals dvs ds) (hx : Passes CX X E)
    (I : Inv X pins σ H s) (r : Vals vs us) (h : sp (vs ++ dvs) H Q E) : wpAny (model X.prog X.w) X.A (call (.ref f) us) (EP X pins σ Q) X.xe s := by
  have r2 : Vals (vs ++ dvs) (us ++ ds) := r.append hd
  have hl : (us ++ ds).length = ps.length := by rw [← r2.length]; exact F.len _ _ _ _ h
  refine wpAny_call (codeAny_mono (F.run X.A X.stack s H ⟨us, []⟩ (us ++ ds) (vs ++ dvs) Q E hr I.env0 (hb s us I.kIn hl) r2 h) fun r s' hq => ?_)
  cases r with
  | error e => exact hx pins σ H s e s' I hq
  | ok fl =>
    cases fl with
    | ret u => exact I.after hq
    | next => exact False.elim hq
    | brk => exact False.elim hq
    | cont => exact False.elim hq
theorem pe_call (F : FnOk X.prog X.w X.K X.mg X.base CX k f fd ps sp) (hr : Room k X.A) (hg : Gl X x) (hm : X.mg x = some (.ref f)) (hk : PySem.W.keepIn X.K (.ref f) = true) (hb : Binds X.K fd ps ds) (hd : Vals dvs ds) (hx : Passes CX X E)
    (ha : PA X (e :: es) t) (hdb : (x == ("__debug__" : Str)) = false := by decide) (he : starEach (e :: es) X.env = (false, eval e X.env) :: starEach es X.env := by rfl) (hpl : (backTo pos (starEach es X.env)).any (·.1) = false := by rfl) :
    PE X (.Call (.Name x p) (e :: es) [] pos) (tCall sp dvs E t) := by
  intro pins s σ H Q I h
  refine wpAny_Call_Name_kw (ld_glob I hg hm ?_ hdb)
  refine PySem.W.callWith_K (h₀ := X.base) I.ok.mod.kin hk (thn (ha pos pins s σ H _ I h) fun us s1 ⟨vs, H1, I1, r, q⟩ => ⟨I1.kIn, ?_⟩) he hpl
  exact run_fn F hr hb hd hx I1 r q
end
section
variable {X : Cx} {CX : CXT} {k : Nat} {f C : Addr} {fd : FuncData} {ps ks : List Str} {sp : Sp} {E : XK} {x m : Str} {p pos apos kpos : Pos} {e o : Expr} {es : List Expr} {kws : List Keyword} {te ta : TE} {t tk : TA} {nm : Option Str}
variable {g : List Value → List Value → List Value} {gV : List V → List V → List V}
end
structure FnScope (N P : List Str) (sc : Scope) : Prop where
  kind : sc.kind = .function
  co : sc.isCoroutine = false
  gen : sc.isGenerator = false
  nd : N.Nodup
  pre : N.take P.length = P
  par : ∀ x ∈ P, sc.names.lookup x = some .local ∨ sc.names.lookup x = some .cell
  nofree : ∀ y ∈ sc.names, y.2 ≠ .free
theorem bindL_out {kindOf : Str → Option NameKind} {x : Str} : ∀ {binds : List (Str × Value)} {m : Str → Option Value}, (∀ v, (x, v) ∉ binds) → bindL kindOf binds m x = m x
  | [], _, _ => rfl
  | (n, v) :: r, m, h => by
    unfold bindL
    rw [bindL_out fun w hw => h w (List.mem_cons_of_mem _ hw)]
    split
    · have : x ≠ n := by rintro rfl; exact h v List.mem_cons_self
      simp [this]
    · rfl
theorem bindC_out {kindOf : Str → Option NameKind} {x : Str} : ∀ {binds : List (Str × Value)} {m : Str → Option Value}, (∀ v, (x, v) ∉ binds) → bindC kindOf binds m x = m x
  | [], _, _ => rfl
  | (n, v) :: r, m, h => by
    unfold bindC
    rw [bindC_out fun w hw => h w (List.mem_cons_of_mem _ hw)]
    split
    · rfl
    · have : x ≠ n := by rintro rfl; exact h v List.mem_cons_self
      simp [this]
theorem bindL_get {kindOf : Str → Option NameKind} {x : Str} {v : Value} : ∀ {P : List Str} {vs : List Value} {i : Nat} {m : Str → Option Value}, P.Nodup → P[i]? = some x → vs[i]? = some v → kindOf x = some .local →
    bindL kindOf (P.zip vs) m x = some v
  | [], _, _, _, _, h, _, _ => by simp at h
  | _ :: _, [], _, _, _, _, h, _ => by simp at h
  | p :: P, w :: vs, 0, m, nd, h1, h2, hk => by
    simp at h1 h2; subst h1; subst h2
    show bindL kindOf ((p, w) :: P.zip vs) m p = _
    unfold bindL
    rw [bindL_out fun v hv => (List.nodup_cons.mp nd).1 (List.of_mem_zip hv).1, if_pos hk]
    simp
  | p :: P, w :: vs, i + 1, m, nd, h1, h2, hk => by
    show bindL kindOf ((p, w) :: P.zip vs) m x = _
    unfold bindL
    exact bindL_get (i := i) (List.nodup_cons.mp nd).2 (by simpa using h1) (by simpa using h2) hk
theorem bindC_get {kindOf : Str → Option NameKind} {x : Str} {v : Value} : ∀ {P : List Str} {vs : List Value} {i : Nat} {m : Str → Option Value}, P.Nodup → P[i]? = some x → vs[i]? = some v → kindOf x ≠ some .local →
    bindC kindOf (P.zip vs) m x = some v
  | [], _, _, _, _, h, _, _ => by simp at h
  | _ :: _, [], _, _, _, _, h, _ => by simp at h
  | p :: P, w :: vs, 0, m, nd, h1, h2, hk => by
    simp at h1 h2; subst h1; subst h2
    show bindC kindOf ((p, w) :: P.zip vs) m p = _
    unfold bindC
    rw [bindC_out fun v hv => (List.nodup_cons.mp nd).1 (List.of_mem_zip hv).1, if_neg hk]
    simp
  | p :: P, w :: vs, i + 1, m, nd, h1, h2, hk => by
    show bindC kindOf ((p, w) :: P.zip vs) m x = _
    unfold bindC
    exact bindC_get (i := i) (List.nodup_cons.mp nd).2 (by simpa using h1) (by simpa using h2) hk
def start (N : List Str) (vs : List V) : St := vs.map some ++ List.replicate (N.length - vs.length) none
def cxOf (CX : CXT) (P : Program) (w : World) (K : PySem.W.Frag) (mg : Str → Option Value) (base : Heap) (N : List Str) (qual : Str) (scope : Scope) (f : Addr) (cd : Value) (A : Around) (outer : List Env) (s : Shared) (H : Hp) (E : XK) : Cx where
  prog := P
  w := w
  K := K
  mg := mg
  base := base
  A := A.deeper (envOfC qual scope s.heap.objs.size f cd)
  N := N
  s₀ := s
  H₀ := H
  env := envOfC qual scope s.heap.objs.size f cd
  outer := outer
  stack := envOfC qual scope s.heap.objs.size f cd :: outer
  ex := []
  calm := true
  fn := fun _ => true
  pn := []
  xe := fun e s' => wpAny (model P w) (A.deeper (envOfC qual scope s.heap.objs.size f cd)) (leaving (envOfC qual scope s.heap.objs.size f cd) e) (fun _ s'' => CX outer H s E e s'') (fun e' s'' => CX outer H s E e' s'') s'
theorem cell_has {sc : Scope} {n : Nat} {x : Str} (h : sc.names.lookup x = some .cell) : ∃ c, (cellsFrom n sc.names []).lookup x = some c := by
  have q := PySem.W.cellsFrom_some sc.names n [] (.inl h)
  exact Option.isSome_iff_exists.mp q
theorem inv_start {CX : CXT} {P : Program} {w : World} {K : PySem.W.Frag} {mg : Str → Option Value} {base : Heap} {N ps : List Str} {qual : Str} {scope : Scope} {f : Addr} {cd : Value} {A : Around} {outer : List Env} {s s1 : Shared} {H : Hp} {E : XK} {us : List Value} {vs : List V}
    (S : FnScope N ps scope) (hd : A.handled = none) (e0 : Env0 P w K mg base A outer s H) (hl : vs.length = ps.length) (r : Vals vs us)
    (x : InCallC s s.heap.objs.size (bindL (envOfC qual scope s.heap.objs.size f cd).kindOf (ps.zip us) fun _ => none) (cellsFrom (s.heap.objs.size + 1) scope.names []) (bindC (envOfC qual scope s.heap.objs.size f cd).kindOf (ps.zip us) fun _ => none) s1) :
    Inv (cxOf CX P w K mg base N qual scope f cd A outer s H E) [] (start N vs) H s1 := by
  have hpl : ps.length ≤ N.length := by have := congrArg List.length S.pre; rw [List.length_take] at this; omega
  obtain ⟨h1, tk, rfl, hk⟩ := x.done
  have noA : ∀ b : Addr, b ∉ (cxOf CX P w K mg base N qual scope f cd A outer s H E).ex := fun b z => absurd (show b ∈ ([] : List Addr) from z) (by simp)
  refine ⟨⟨e0.mod, S.kind, rfl, rfl, Nat.le_refl _, fun y z c h1 h2 => ?_, fun y hy => ?_, fun y c _ h => ?_, fun _ => hd, Around.frames_deeper e0.frames, .inr ⟨rfl, rfl⟩, fun b z => absurd z (noA b), e0.bs, e0.bsz, fun b _ _ => noA b, fun b z => absurd z (noA b), e0.funs, e0.frf⟩,
    rfl, e0.bare, Un.kept hk, ⟨_, x.toInCall.ns, fun i y v h1 h2 h3 => ?_⟩, fun y c h => ⟨_, x.cell y c h⟩, e0.hok.fresh (Nat.le_refl _), fun y c h => ?_, fun p hp => absurd (show p ∈ ([] : List (Addr × Obj)) from hp) (by simp), e0.hok.kept hk, ?_⟩
  · exact name_of_addr x.apart (PySem.mem_of_lookup h1) (PySem.mem_of_lookup h2)
  · have hy : scope.names.lookup y = some .cell ∨ scope.names.lookup y = some .free := hy
    rcases hy with hy | hy
    · exact cell_has hy
    · exact absurd rfl (S.nofree _ (PySem.mem_of_lookup hy))
  · exact Nat.le_of_lt (x.above y c (PySem.mem_of_lookup h))
  · have hi : i < vs.length := by
      unfold start at h2
      by_cases hi : i < vs.length
      · exact hi
      · rw [List.getElem?_append_right (by simpa using hi)] at h2
        rw [List.getElem?_replicate] at h2
        split at h2 <;> cases h2
    have ha : vs[i]? = some v := by
      unfold start at h2
      rw [List.getElem?_append_left (by simpa using hi), List.getElem?_map] at h2
      cases e : vs[i]? with
      | none => rw [e] at h2; cases h2
      | some a => rw [e] at h2; cases h2; rfl
    obtain ⟨u, hu, rv⟩ := r.get ha
    have hp : ps[i]? = some y := by
      rw [← S.pre, List.getElem?_take_of_lt (by omega)]; exact h1
    have ndP : ps.Nodup := by rw [← S.pre]; exact S.nd.sublist (List.take_sublist _ _)
    refine ⟨u, rv, ?_⟩
    rcases S.par y (List.mem_of_getElem? hp) with k | k
    · exact .inl ⟨k, bindL_get ndP hp hu k⟩
    · obtain ⟨c, e⟩ := cell_has (n := s.heap.objs.size + 1) k
      refine .inr ⟨.inl k, c, e, ?_⟩
      have q := x.cell y c e
      rw [bindC_get ndP hp hu (by show scope.names.lookup y ≠ _; rw [k]; decide)] at q
      exact q
  · exact e0.hok.fresh (Nat.le_of_lt (x.above y c (PySem.mem_of_lookup h)))
  · unfold start
    show _ = N.length
    rw [List.length_append, List.length_map, List.length_replicate]
    omega
theorem fn_of {CX : CXT} {P : Program} {w : World} {K : PySem.W.Frag} {mg : Str → Option Value} {base : Heap} {k : Nat} {f : Addr} {name qual : Str} {params : Arguments} {body : List Stmt} {scope : Scope} {dV kV doc pm cdv ct oc : Value} {an od : Option Addr}
    {osl : Array (Option Value)} {N ps : List Str} {sp : Sp} (lk : K.lookup f = some ⟨oc, od, .func (PySem.W.fnOf name qual params body scope dV kV doc pm an cdv ct), osl⟩) (hcd : PySem.W.codeIn K cdv qual = true) (S : FnScope N ps scope)
    (len : ∀ vs H Q E, sp vs H Q E → vs.length = ps.length)
    (hbody : ∀ (A : Around) (outer : List Env) (s : Shared) (H : Hp) (vs : List V) (Q : VK) (E : XK), Room k (A.deeper (envOfC qual scope s.heap.objs.size f cdv)) → sp vs H Q E →
      ∃ t, PSs (cxOf CX P w K mg base N qual scope f cdv A outer s H E) body t ∧ t { nx := fun _ H' => Q .non H', rt := Q } (start N vs) H) :
    FnOk P w K mg base CX (k + 1) f (PySem.W.fnOf name qual params body scope dV kV doc pm an cdv ct) ps sp := by
  refine ⟨len, fun A outer s H args us vs Q E hr e0 hb r hsp => ?_⟩
  have hl := len _ _ _ _ hsp
  have KX : K.In s.heap := e0.mod.kin.keeps fun b o e => (e0.bs b o e).1
  have lim : s.heap.NoLimit := e0.mod.nolimit.keeps fun b o e => (e0.bs b o e).1
  have hkind : ∀ y ∈ ps.zip us, scope.names.lookup y.1 = some .local ∨ (scope.names.lookup y.1 = some .cell ∧ ((cellsFrom (s.heap.objs.size + 1) scope.names []).lookup y.1).isSome = true) := fun ⟨n, v⟩ hy => by
    rcases S.par n (List.of_mem_zip hy).1 with q | q
    · exact .inl q
    · exact .inr ⟨q, PySem.W.cellsFrom_some _ _ _ (.inl q)⟩
  refine codeAny_call_function hr.depth (KX _ _ lk) rfl S.co S.gen rfl (PySem.W.codeRec_of KX hcd) (hb _ _ _ _ ?_)
  refine wpAny_newFunctionEnv_cells S.kind hkind fun env he s1 x => ?_
  subst he
  refine ⟨lim.keeps x.toInCall.keep, codeAny_func ?_⟩
  obtain ⟨t, ht, hq⟩ := hbody A outer s H vs Q E (hr.deeper _) hsp
  have I : Inv (cxOf CX P w K mg base N qual scope f cdv A outer s H E) [] (start N vs) H s1 := inv_start S hr.hd e0 hl r x
  refine wpAny_mono (ht [] s1 (start N vs) H _ I hq) (fun fl s' hs => ?_) fun e s' hs => hs
  have fin : ∀ {σ' : St} {H' : Hp} {v : V} {u : Value}, Inv (cxOf CX P w K mg base N qual scope f cdv A outer s H E) [] σ' H' s' → RelV v u → Q v H' → CE outer P w H s Q u s' :=
    fun {σ' H' v u} J rv q => ⟨v, H', J.os, J.bare, J.base, J.hok, rv, q⟩
  cases fl with
  | ret u =>
    obtain ⟨v, σ', H', J, rv, q⟩ := hs
    exact fin J rv q
  | next =>
    obtain ⟨σ', H', J, q⟩ := hs
    exact fin (v := V.non) (u := Value.none) J rfl q
  | brk =>
    obtain ⟨_, _, _, q⟩ := hs
    exact False.elim q
  | cont =>
    obtain ⟨_, _, _, q⟩ := hs
    exact False.elim q
end L2
namespace L2
open PySem PySem.Spec PyProof.Rows
section
variable {X : Cx} {x : Str} {p pos : Pos} {e : Expr} {es : List Expr} {t : TA} {id T : String} {r : List V → Hp → VK → Prop}
def tCB (r : List V → Hp → VK → Prop) (t : TA) : TE := fun σ H Q => t σ H fun vs H1 => r vs H1 Q
theorem pe_callB (hc : CallR X (.builtin id) r) (hg : Gl X x) (hm : X.mg x = none) (hv : bootBuiltins x = some (.builtin id)) (ha : PA X (e :: es) t) (hn : x ≠ "__name__" := by decide) (hdb : (x == ("__debug__" : Str)) = false := by decide)
    (he : starEach (e :: es) X.env = (false, eval e X.env) :: starEach es X.env := by rfl) (hpl : (backTo pos (starEach es X.env)).any (·.1) = false := by rfl) : PE X (.Call (.Name x p) (e :: es) [] pos) (tCB r t) := by
  intro pins s σ H Q I h
  refine wpAny_Call_Name_kw (ld_blt I hg hm hv ?_ hn hdb)
  exact PyProof.Rows.callWith_builtin1 (thn (ha pos pins s σ H _ I h) fun us s1 ⟨vs, H1, I1, r1, q1⟩ => hc pins s1 σ H1 vs us Q I1 r1 q1) he hpl
theorem pe_callTy (hc : CallR X (.type T) r) (hg : Gl X x) (hm : X.mg x = none) (hv : bootBuiltins x = some (.type T)) (ha : PA X (e :: es) t) (hn : x ≠ "__name__" := by decide) (hdb : (x == ("__debug__" : Str)) = false := by decide)
    (he : starEach (e :: es) X.env = (false, eval e X.env) :: starEach es X.env := by rfl) (hpl : (backTo pos (starEach es X.env)).any (·.1) = false := by rfl) : PE X (.Call (.Name x p) (e :: es) [] pos) (tCB r t) := by
  intro pins s σ H Q I h
  refine wpAny_Call_Name_kw (ld_blt I hg hm hv ?_ hn hdb)
  exact PyProof.Rows.callWith_type1 (thn (ha pos pins s σ H _ I h) fun us s1 ⟨vs, H1, I1, r1, q1⟩ => hc pins s1 σ H1 vs us Q I1 r1 q1) he hpl
end
end L2
namespace HT
open PySem PyProof.Rows
section
open PySem.SeqAt
open PySem.AutoSeq1 (wpAny_loadPart')
open PySem.MeetsSeq PySem.MeetsSeq2 PySem.MeetsSeq3
end
section
variable {prog : Program} {w : World} {A : Around} {E : Value → Shared → Prop} {s : Shared}
def sIx (n d : Nat) : Option Int → Nat
  | none => d
  | some v => if v < 0 then (v + (n : Int)).toNat else min v.toNat n
theorem sIx_none (n d : Nat) : sIx n d none = d := rfl
theorem sIx_nat (n d k : Nat) : sIx n d (some (k : Int)) = min k n := by
  show (if (k : Int) < 0 then ((k : Int) + (n : Int)).toNat else min (k : Int).toNat n) = min k n
  rw [if_neg (by omega), Int.toNat_natCast]
theorem sIx_le (n d : Nat) (hd : d ≤ n) (o : Option Int) : sIx n d o ≤ n := by
  cases o with
  | none => exact hd
  | some v =>
    show (if v < 0 then (v + (n : Int)).toNat else min v.toNat n) ≤ n
    by_cases hv : v < 0
    · rw [if_pos hv]; omega
    · rw [if_neg hv]; exact Nat.min_le_right _ _
end
end HT
namespace L2
open PySem PySem.Spec PyProof.Rows
abbrev TO := St → Hp → (Option Int → Hp → Prop) → Prop
def PO (X : Cx) (e : Option Expr) (t : TO) : Prop :=
  ∀ (pins : List (Addr × Obj)) (s : Shared) (σ : St) (H : Hp) (Q : Option Int → Hp → Prop), Inv X pins σ H s → t σ H Q →
    wpAny (model X.prog X.w) X.A (evalPart e X.env) (fun u s' => ∃ o H', Inv X pins σ H' s' ∧ IsPart u o ∧ Q o H') X.xe s
def tNoPart : TO := fun _ H Q => Q none H
def tPart (t : TE) : TO := fun σ H Q => t σ H fun x H1 => ∃ i, x = .int i ∧ Q (some i) H1
section
variable {X : Cx} {e : Expr} {te : TE} {lo hi : Option Expr} {tl th : TO} {pos p2 : Pos}
theorem po_none : PO X none tNoPart := by
  intro pins s σ H Q I h
  rw [evalPart_none]
  exact wpAny_pure ⟨none, H, I, .none, h⟩
theorem po_some (h : PE X e te) : PO X (some e) (tPart te) := by
  intro pins s σ H Q I hw
  rw [evalPart_some]
  refine thn (h pins s σ H _ I hw) fun u s1 ⟨x, H1, I1, r1, q1⟩ => ?_
  obtain ⟨i, rfl, q⟩ := q1
  obtain ⟨t, rfl⟩ := r1
  exact ⟨some i, H1, I1, .int i t, q⟩
def SlR (X : Cx) (r : V → Option Int → Option Int → Hp → VK → Prop) : Prop :=
  ∀ (pins : List (Addr × Obj)) (s : Shared) (σ : St) (H : Hp) (x : V) (v vl vu : Value) (lo hi : Option Int) (sl : Addr) (Q : VK), Inv X pins σ H s → RelV x v → s.heap.IsSliceOf sl vl vu .none → IsPart vl lo → IsPart vu hi → r x lo hi H Q →
    ∃ T id, typeLookup (.type T) "__getitem__" = pure (some (.builtin id)) ∧ s.TypeIs v T ∧ wpAny (model X.prog X.w) X.A (getItem v (.ref sl)) (EP X pins σ Q) X.xe s
theorem SlR.or {r r' : V → Option Int → Option Int → Hp → VK → Prop} (h : SlR X r) (h' : SlR X r') : SlR X (fun x lo hi H Q => r x lo hi H Q ∨ r' x lo hi H Q) := by
  intro pins s σ H x v vl vu lo hi sl Q I rx hs pl pu q
  rcases q with q | q
  · exact h pins s σ H x v vl vu lo hi sl Q I rx hs pl pu q
  · exact h' pins s σ H x v vl vu lo hi sl Q I rx hs pl pu q
def tSl (r : V → Option Int → Option Int → Hp → VK → Prop) (te : TE) (tl th : TO) : TE := fun σ H Q => te σ H fun x H1 => tl σ H1 fun l H2 => th σ H2 fun u H3 => r x l u H3 Q
theorem pe_slice {r : V → Option Int → Option Int → Hp → VK → Prop} (hr : SlR X r) (he : PE X e te) (hl : PO X lo tl) (hu : PO X hi th) : PE X (.Subscript e (.Slice lo hi none p2) pos) (tSl r te tl th) := by
  intro pins s σ H Q I h
  refine Subscript_ (thn (he pins s σ H _ I h) fun v s1 ⟨x, H1, I1, r1, q1⟩ => ?_)
  refine wpAny_Slice (thn (hl pins s1 σ H1 _ I1 q1) fun vl s2 ⟨l, H2, I2, pl, q2⟩ => thn (hu pins s2 σ H2 _ I2 q2) fun vu s3 ⟨u, H3, I3, pu, q3⟩ => ?_)
  rw [evalPart_none]
  refine wpAny_pure ?_
  have I4 : Inv X pins σ H3 { s3 with heap := s3.heap.push { cls := .type "slice", data := .fields #[vl, vu, .none] } } := I3.kept (t' := s3.toks) fun b ob q => Heap.get?_push_of_some _ q
  obtain ⟨T, id, hT, ht, hg⟩ := hr pins { s3 with heap := s3.heap.push { cls := .type "slice", data := .fields #[vl, vu, .none] } } σ H3 x v vl vu l u s3.heap.objs.size Q I4 r1 (Heap.IsSliceOf.new ..) pl pu q3
  show wpAny (model X.prog X.w) X.A (subscriptTail e (.Slice lo hi none p2) v (.ref s3.heap.objs.size)) (EP X pins σ Q) X.xe { s3 with heap := s3.heap.push { cls := .type "slice", data := .fields #[vl, vu, .none] } }
  exact tail_any (ops := [.ref s3.heap.objs.size, v]) ht hT hg (by with_unfolding_all rfl)
end
end L2
namespace L2
open PySem PySem.Spec PyProof.Rows
def ixN (n : Nat) (i : Int) : Option Nat := if 0 ≤ i then (if i < n then some i.toNat else none) else if -(n : Int) ≤ i then some (i + n).toNat else none
def atI {α : Type} (xs : List α) (i : Int) : Option α := (ixN xs.length i).bind fun j => xs[j]?
theorem ixN_seq {n : Nat} {i : Int} {j : Nat} (h : ixN n i = some j) : seqIndex? i n = some j ∧ j < n ∧ -(n : Int) ≤ i ∧ i < n := by
  unfold ixN at h
  by_cases h0 : 0 ≤ i
  · rw [if_pos h0] at h
    by_cases h1 : i < n
    · rw [if_pos h1] at h
      have e : i.toNat = j := Option.some.inj h
      exact ⟨by rw [seqIndex_of h0 h1, e], by omega, by omega, h1⟩
    · rw [if_neg h1] at h; cases h
  · rw [if_neg h0] at h
    by_cases h1 : -(n : Int) ≤ i
    · rw [if_pos h1] at h
      have e : (i + n).toNat = j := Option.some.inj h
      exact ⟨by rw [seqIndex_neg (by omega) h1, e], by omega, h1, by omega⟩
    · rw [if_neg h1] at h; cases h
theorem atI_get {α : Type} {xs : List α} {i : Int} {v : α} (h : atI xs i = some v) : ∃ j, seqIndex? i xs.length = some j ∧ xs[j]? = some v ∧ j < xs.length ∧ -(xs.length : Int) ≤ i ∧ i < xs.length := by
  unfold atI at h
  cases e : ixN xs.length i with
  | none => rw [e] at h; cases h
  | some j =>
    rw [e] at h
    obtain ⟨h1, h2, h3, h4⟩ := ixN_seq e
    exact ⟨j, h1, h, h2, h3, h4⟩
theorem atI_nat {α : Type} {xs : List α} {j : Nat} {v : α} (h : xs[j]? = some v) : atI xs (j : Int) = some v := by
  have hj : j < xs.length := (List.getElem?_eq_some_iff.mp h).1
  have e : ixN xs.length (j : Int) = some j := by
    unfold ixN
    rw [if_pos (by omega), if_pos (by omega)]; simp
  unfold atI; rw [e]; exact h
def PlainIx (b : Expr) : Prop := ∀ o i, subscripted b false o i = operate [o, i] (getItem o i)
def IxR (X : Cx) (r : R2) : Prop :=
  ∀ (value slice : Expr) (pins : List (Addr × Obj)) (s : Shared) (σ : St) (H : Hp) (x y : V) (v u : Value) (Q : VK), Inv X pins σ H s → RelV x v → RelV y u → r x y H Q →
    subscripted slice false v u = operate [v, u] (getItem v u) → wpAny (model X.prog X.w) X.A (subscriptTail value slice v u) (EP X pins σ Q) X.xe s
def MtR (X : Cx) (id : String) (r : V → List V → Hp → VK → Prop) : Prop :=
  ∀ (pins : List (Addr × Obj)) (s : Shared) (σ : St) (H : Hp) (x : V) (xs : List V) (v : Value) (us : List Value) (Q : VK), Inv X pins σ H s → RelV x v → Vals xs us → r x xs H Q →
    wpAny (model X.prog X.w) X.A (call (.builtin id) (v :: us)) (EP X pins σ Q) X.xe s
section
variable {X : Cx} {a b : Expr} {ta tb : TE} {pos : Pos}
theorem IxR.or {r r' : R2} (h : IxR X r) (h' : IxR X r') : IxR X (fun x y H Q => r x y H Q ∨ r' x y H Q) := by
  intro value slice pins s σ H x y v u Q I rx ry q hs
  rcases q with q | q
  · exact h value slice pins s σ H x y v u Q I rx ry q hs
  · exact h' value slice pins s σ H x y v u Q I rx ry q hs
theorem MtR.or {id : String} {r r' : V → List V → Hp → VK → Prop} (h : MtR X id r) (h' : MtR X id r') : MtR X id (fun x xs H Q => r x xs H Q ∨ r' x xs H Q) := by
  intro pins s σ H x xs v us Q I rx rs q
  rcases q with q | q
  · exact h pins s σ H x xs v us Q I rx rs q
  · exact h' pins s σ H x xs v us Q I rx rs q
theorem pe_ix {r : R2} (hr : IxR X r) (ha : PE X a ta) (hb : PE X b tb) (hs : PlainIx b) : PE X (.Subscript a b pos) (tOp r ta tb) := by
  intro pins s σ H Q I h
  exact Subscript_ (binT ha hb I h fun v u s2 x y H2 I2 rx ry q => hr a b pins s2 σ H2 x y v u Q I2 rx ry q (hs _ _))
def rIxL (K : PySem.W.Frag) : R2 := fun x y H Q => ∃ p xs i v, x = .ref p ∧ y = .int i ∧ SqL K H p xs ∧ atI xs i = some v ∧ Q v H
def rIxT (K : PySem.W.Frag) : R2 := fun x y H Q => ∃ p xs i v, x = .ref p ∧ y = .int i ∧ SqT K H p xs ∧ atI xs i = some v ∧ Q v H
def rIxS : R2 := fun x y H Q => ∃ z i c, x = .str z ∧ y = .int i ∧ z.length ≤ sizeLine ∧ atI z.cps.toList i = some c ∧ Q (.str ⟨#[c]⟩) H
theorem ix_list : IxR X (rIxL X.K) := by
  intro value slice pins s σ H x y v u Q I rx ry h hs
  obtain ⟨p, xs, i, z, rfl, rfl, hq, he, q⟩ := h
  cases rx
  obtain ⟨t, rfl⟩ := ry
  obtain ⟨its, r, pl, hz⟩ := I.list hq
  obtain ⟨j, h1, h2, h3, h4, h5⟩ := atI_get he
  obtain ⟨w, ew, rw'⟩ := r.get h2
  have hl := r.length
  have hn := line63
  have fin : EP X pins σ Q w s := ⟨z, H, I, rw', q⟩
  by_cases h0 : 0 ≤ i
  · have hj : i.toNat = j := by
      rw [seqIndex_of h0 h5] at h1
      exact Option.some.inj h1
    exact item_listR pl.isList h0 (by omega) (by rw [hj]; simpa using ew) fin hs
  · have hj : (i + (its.toArray.size : Int)).toNat = j := by
      rw [seqIndex_neg (by omega) h4] at h1
      rw [List.size_toArray, ← hl]
      exact Option.some.inj h1
    exact subscriptTail_builtinR (x := w) pl.isList.typeIs slot_list_getitem.lookup
      (wpAny_getItem_list_neg (Q := fun r s' => r = w ∧ EP X pins σ Q r s') pl.isList (by omega) (by rw [List.size_toArray] <;> omega) (by omega) (by rw [hj]; simpa using ew) ⟨rfl, fin⟩) hs
theorem ix_tup : IxR X (rIxT X.K) := by
  intro value slice pins s σ H x y v u Q I rx ry h hs
  obtain ⟨p, xs, i, z, rfl, rfl, hq, he, q⟩ := h
  cases rx
  obtain ⟨t, rfl⟩ := ry
  obtain ⟨its, r, pl, hz⟩ := I.tuple hq
  obtain ⟨j, h1, h2, h3, h4, h5⟩ := atI_get he
  obtain ⟨w, ew, rw'⟩ := r.get h2
  have hl := r.length
  have hn := line63
  have fin : EP X pins σ Q w s := ⟨z, H, I, rw', q⟩
  exact subscriptTail_builtinR (x := w) pl.typeIs slot_tuple_getitem.lookup
    (getItem_tuple (j := j) (Q := fun r s' => r = w ∧ EP X pins σ Q r s') pl (by omega) (by omega) (by rw [List.size_toArray, ← hl]; exact h1) (by simpa using ew) ⟨rfl, fin⟩) hs
theorem ix_str : IxR X rIxS := by
  intro value slice pins s σ H x y v u Q I rx ry h hs
  obtain ⟨z, i, c, rfl, rfl, hz, he, q⟩ := h
  obtain ⟨t, rfl⟩ := rx
  obtain ⟨t', rfl⟩ := ry
  obtain ⟨j, h1, h2, h3, h4, h5⟩ := atI_get he
  have hl : z.cps.toList.length = z.length := by simp [Str.length]
  rw [hl] at h1 h4 h5
  have hn := line63
  exact tail_any (typeIs_str s z t) slot_str_getitem.lookup (getItem_str (c := c) (by
    have e1 : decide (i < -(2 ^ 63 : Int)) = false := decide_eq_false (by omega)
    have e2 : decide (i ≥ 2 ^ 63) = false := decide_eq_false (by omega)
    rw [e1, e2, Bool.or_false]) (by rw [h1]; simpa using h2) ⟨.str ⟨#[c]⟩, H, I.tok _, ⟨_, rfl⟩, q⟩) hs
theorem mapSeq_set (its : List Value) (n j : Nat) (u : Value) : Obj.mapSeq (·.setIfInBounds j u) { cls := .type "list", data := .seq its.toArray n } = { cls := .type "list", data := .seq (its.set j u).toArray n } := by
  simp [Obj.mapSeq]
theorem Inv.lst {pins : List (Addr × Obj)} {σ : St} {H : Hp} {s : Shared} {p : Addr} {xs : List V} (I : Inv X pins σ H s) (h : H p = some (.lst xs)) :
    ∃ (its : List Value) (n : Nat), Vals xs its ∧ s.heap.get? p = some { cls := .type "list", data := .seq its.toArray n } ∧ xs.length ≤ sizeLine := by
  obtain ⟨z, its, n, r, e⟩ := I.hok p _ h
  exact ⟨its, n, r, e, z⟩
theorem Inv.lstUpd {pins : List (Addr × Obj)} {σ : St} {H : Hp} {s : Shared} {p : Addr} {xs ys : List V} {its its' : List Value} {n n' : Nat} {f : Obj → Obj} (I : Inv X pins σ H s) (h : H p = some (.lst xs))
    (ho : s.heap.get? p = some { cls := .type "list", data := .seq its.toArray n }) (hf : f { cls := .type "list", data := .seq its.toArray n } = { cls := .type "list", data := .seq its'.toArray n' }) (r : Vals ys its') (hz : ys.length ≤ sizeLine) (t : Nat) :
    Inv X pins σ (upd H p (.lst ys)) { s with heap := s.heap.update p f, toks := t } := by
  have e : (s.heap.update p f).get? p = some { cls := .type "list", data := .seq its'.toArray n' } := by
    rw [Heap.get?_update_self f ho (by rw [hf] <;> rfl), hf]
  refine I.write (x := p) (e := p) (by rw [h]; trivial) (.inl rfl) (fun b u hb q => (Heap.get?_update_other _ _ (Ne.symm hb)).trans q) ⟨_, e⟩ ?_
  exact ⟨hz, its', n', r, e⟩
def rSetL : V → V → V → Hp → (Hp → Prop) → Prop := fun o i v H Q => ∃ p xs k j, o = .ref p ∧ i = .int k ∧ H p = some (.lst xs) ∧ ixN xs.length k = some j ∧ Q (upd H p (.lst (xs.set j v)))
theorem set_list : PSet X rSetL := by
  intro pins s σ H o i v ov iv u Q I ro ri rv h
  obtain ⟨p, xs, k, j, rfl, rfl, hp, hj, q⟩ := h
  cases ro
  obtain ⟨t, rfl⟩ := ri
  obtain ⟨its, n, r, ho, hz⟩ := I.lst hp
  obtain ⟨h1, h2, h3, h4⟩ := ixN_seq hj
  have hl := r.length
  have hn := line63
  have I' : Inv X pins σ (upd H p (.lst (xs.set j v))) { s with heap := s.heap.update p (Obj.mapSeq (·.setIfInBounds j u)) } :=
    I.lstUpd hp ho (mapSeq_set its n j u) (r.set rv j) (by rw [List.length_set]; exact hz) s.toks
  by_cases h0 : 0 ≤ k
  · have hk : k.toNat = j := by
      rw [seqIndex_of h0 h4] at h1
      exact Option.some.inj h1
    exact PySem.W.ki_setAt ho h0 (by omega) (by rw [List.size_toArray, ← hl]; exact h4) (by rw [hk]; exact ⟨_, I', q⟩)
  · have hk : (k + (its.toArray.size : Int)).toNat = j := by
      rw [seqIndex_neg (by omega) h3] at h1
      rw [List.size_toArray, ← hl]
      exact Option.some.inj h1
    exact PySem.W.ki_setBack ho (by omega) (by rw [List.size_toArray, ← hl]; exact h3) (by omega) (by rw [hk]; exact ⟨_, I', q⟩)
theorem call_len_seq : CallR X (.builtin "len") (fun xs H Q => ∃ p ys, xs = [.ref p] ∧ (SqL X.K H p ys ∨ SqT X.K H p ys) ∧ Q (.int ys.length) H) := by
  intro pins s σ H xs us Q I r h
  obtain ⟨p, ys, rfl, hq, q⟩ := h
  obtain ⟨u, rfl, rx⟩ := vals1 r
  cases rx
  have hn := line63
  rcases hq with hq | hq
  · obtain ⟨its, r', pl, hz⟩ := I.list hq
    have hlen := r'.length
    exact Calls.call_len_list pl.isList (by simp only [List.size_toArray] <;> omega) ⟨.int ys.length, H, I.tok _, ⟨s.toks + 1, by rw [List.size_toArray, hlen]⟩, q⟩
  · obtain ⟨its, r', pl, hz⟩ := I.tuple hq
    have hlen := r'.length
    exact len_tuple pl (by simp only [List.size_toArray] <;> omega) ⟨.int ys.length, H, I.tok _, ⟨s.toks + 1, by rw [List.size_toArray, hlen]⟩, q⟩
theorem call_len_str : CallR X (.builtin "len") (fun xs H Q => ∃ z, xs = [.str z] ∧ z.length ≤ sizeLine ∧ Q (.int z.length) H) := by
  intro pins s σ H xs us Q I r h
  obtain ⟨z, rfl, hz, q⟩ := h
  obtain ⟨u, rfl, t, rfl⟩ := vals1 r
  have hn := line63
  exact len_str (by omega) ⟨.int z.length, H, I.tok _, ⟨_, rfl⟩, q⟩
theorem CallR.or {f : Value} {r r' : List V → Hp → VK → Prop} (h : CallR X f r) (h' : CallR X f r') : CallR X f (fun xs H Q => r xs H Q ∨ r' xs H Q) := by
  intro pins s σ H xs us Q I rs q
  rcases q with q | q
  · exact h pins s σ H xs us Q I rs q
  · exact h' pins s σ H xs us Q I rs q
def tyV (K : PySem.W.Frag) (T : String) (x : V) (H : Hp) : Prop := match x with
  | .str _ => T = "str"
  | .int _ => T = "int"
  | .ref p => (T = "list" ∧ ∃ xs, SqL K H p xs) ∨ (T = "tuple" ∧ ∃ o, K.lookup p = some o ∧ o.cls = .type "tuple" ∧ o.dict = none) ∨
      (T = "dict" ∧ ((∃ kvs, H p = some (.dK kvs)) ∨ ∃ kvs, H p = some (.dT kvs))) ∨ (T = "set" ∧ ∃ S n, H p = some (.set S n))
  | _ => False
theorem tyV_is {pins : List (Addr × Obj)} {σ : St} {H : Hp} {s : Shared} {T : String} {x : V} {v : Value} (I : Inv X pins σ H s) (r : RelV x v) (ty : tyV X.K T x H) :
    s.TypeIs v T ∧ ∀ a, v = .ref a → ∃ ob, s.heap.get? a = some ob ∧ ob.dict = none := by
  cases x with
  | str z =>
    obtain ⟨t, rfl⟩ := r
    cases (show T = "str" from ty)
    exact ⟨typeIs_str s z t, fun _ e => nomatch e⟩
  | int i =>
    obtain ⟨t, rfl⟩ := r
    cases (show T = "int" from ty)
    exact ⟨typeIs_int s i t, fun _ e => nomatch e⟩
  | ref p =>
    cases r
    rcases ty with ⟨rfl, xs, hq⟩ | ⟨rfl, o, hk, hc, hd⟩ | ⟨rfl, hk⟩ | ⟨rfl, S, n, hk⟩
    · obtain ⟨its, _, pl, _⟩ := I.list hq
      refine ⟨pl.isList.typeIs, fun a e => ?_⟩
      cases e
      obtain ⟨o, n, e, c, hd, _⟩ := pl
      exact ⟨o, e, hd⟩
    · refine ⟨⟨o, I.kIn p o hk, hc⟩, fun a e => ?_⟩
      cases e
      exact ⟨o, I.kIn _ o hk, hd⟩
    · have z : ∃ o, s.heap.get? p = some o ∧ o.ExactDict := by
        rcases hk with ⟨kvs, hk⟩ | ⟨kvs, hk⟩
        · obtain ⟨_, _, _, _, o, _, _, e, ex, _⟩ := I.hok p _ hk
          exact ⟨o, e, ex⟩
        · obtain ⟨_, _, _, _, o, _, _, e, ex, _⟩ := I.hok p _ hk
          exact ⟨o, e, ex⟩
      obtain ⟨o, e, ex⟩ := z
      refine ⟨⟨o, e, ex.1⟩, fun a e2 => ?_⟩
      cases e2
      exact ⟨o, e, ex.2.1⟩
    · obtain ⟨o, _, _, _, e, ex, _⟩ := I.hok p _ hk
      refine ⟨⟨o, e, ex.1⟩, fun a e2 => ?_⟩
      cases e2
      exact ⟨o, e, ex.2.1⟩
  | _ => exact False.elim ty
def tBM0 (K : PySem.W.Frag) (T : String) (r : V → List V → Hp → VK → Prop) (to : TE) : TE := fun σ H Q => to σ H fun x H1 => tyV K T x H1 ∧ r x [] H1 Q
def tBM (K : PySem.W.Frag) (T : String) (r : V → List V → Hp → VK → Prop) (to : TE) (t : TA) : TE := fun σ H Q => to σ H fun x H1 => tyV K T x H1 ∧ t σ H1 fun xs H2 => r x xs H2 Q
variable {o e : Expr} {es : List Expr} {to : TE} {t : TA} {name : Str} {apos cpos : Pos} {T id : String} {r : V → List V → Hp → VK → Prop}
theorem pe_bm (pa : PlainAttrs T) (slot : Slot T name id) (hty : typeOf (.builtin id) = pure (.type "method_descriptor")) (hm : MtR X id r) (ho : PE X o to) (ha : PA X (e :: es) t)
    (hbase : attributeBase o name X.env (eval o X.env) = eval o X.env := by rfl)
    (hfew : ((backTo cpos (starEach (e :: es) X.env)).all (fun x => !x.1) && (backToKw cpos (keywordEach [] X.env)).all (fun x => x.1.isSome)
      && decide ((e :: es).length + ([] : List Keyword).length + (if ([] : List Keyword).isEmpty then 0 else 1) < 30)) = true := by rfl)
    (hline : (apos.endLine == cpos.line) = true := by rfl) (hs : starEach (e :: es) X.env = (false, eval e X.env) :: starEach es X.env := by rfl) (hplain : (backTo cpos (starEach es X.env)).any (·.1) = false := by rfl) :
    PE X (.Call (.Attribute o name apos) (e :: es) [] cpos) (tBM X.K T r to t) := by
  intro pins s σ H Q I h
  refine wpAny_Call_method_late hbase hfew hline rfl (thn (ho pins s σ H _ I h) fun v s1 ⟨x, H1, I1, r1, ty, q1⟩ => ?_)
  obtain ⟨h1, h2⟩ := tyV_is I1 r1 ty
  refine ⟨T, id, pa, slot, hty, h1, h2, ?_⟩
  have hA := ha cpos pins s1 σ H1 _ I1 q1
  rw [hs] at hA ⊢
  refine Calls.callWith_builtin (by show (false || (backTo cpos (starEach es X.env)).any (·.1)) = false; rw [hplain] <;> rfl) (Calls.evalArgs_plain ?_)
  exact thn hA fun us s2 ⟨vs, H2, I2, r2, q2⟩ => hm pins s2 σ H2 x vs v us Q I2 r1 r2 q2
/- xs.append(e), list.index on a module's tuple .. are MtR facts of 06m -/
end
end L2
namespace L2
open PySem PySem.Spec PyProof.Rows
theorem Vals.one : ∀ {x : V} {us : List Value}, Vals [x] us → ∃ u, us = [u] ∧ RelV x u
  | _, _, .cons r .nil => ⟨_, rfl, r⟩
theorem Vals.two : ∀ {x y : V} {us : List Value}, Vals [x, y] us → ∃ u v, us = [u, v] ∧ RelV x u ∧ RelV y v
  | _, _, _, .cons r (.cons q .nil) => ⟨_, _, rfl, r, q⟩
theorem Vals.zero : ∀ {us : List Value}, Vals [] us → us = []
  | _, .nil => rfl
theorem Vals.dropLast {xs : List V} {us : List Value} (h : Vals xs us) : Vals xs.dropLast us.dropLast := by
  induction h with
  | nil => exact .nil
  | cons r t ih =>
    cases t with
    | nil => exact .nil
    | cons q t' => exact .cons r ih
theorem Vals.eraseIdx : ∀ {xs : List V} {us : List Value} (i : Nat), Vals xs us → Vals (xs.eraseIdx i) (us.eraseIdx i)
  | _, _, _, .nil => .nil
  | _, _, 0, .cons _ t => t
  | _, _, i + 1, .cons r t => .cons r (Vals.eraseIdx i t)
theorem Vals.reverse {xs : List V} {us : List Value} (h : Vals xs us) : Vals xs.reverse us.reverse := by
  induction h with
  | nil => exact .nil
  | cons r t ih => rw [List.reverse_cons, List.reverse_cons]; exact Vals.append ih (.cons r .nil)
section
variable {X : Cx} {pins : List (Addr × Obj)} {σ : St} {H : Hp} {s : Shared} {l b : Addr} {xs ys zs : List V}
theorem Inv.fresh (I : Inv X pins σ H s) : H s.heap.objs.size = none := I.hok.fresh (Nat.le_refl _)
end
section
variable {X : Cx}
end
section
variable {prog : Program} {w : World} {A : Around} {E : Value → Shared → Prop} {s : Shared}
end
section
variable {X : Cx}
end
end L2
namespace Att
open PySem PySem.W PySem.Calls PyProof.Rows
theorem ints_of_wellAll {P : Params} {h : Heap} : ∀ (ns : List Int) (vs : List Value), WellAll P h vs (ns.map WData.int) → IntsAre vs ns := by
  intro ns
  induction ns with
  | nil =>
    intro vs w
    rw [List.map_nil] at w
    cases w
    exact .nil
  | cons n ns ih =>
    intro vs w
    rw [List.map_cons] at w
    cases w with
    | cons a b =>
      cases a
      exact .cons _ _ (ih _ b)
theorem script_of {l : OpenLaw} {n : Nat} (hn : l.most = some n) {P : Params} {h : Heap} {args : List WData} {vals : List Value}
    (hpre : l.row.toRowW.claim.pre args = true) (hwl : WellAll P h vals args) :
    ∃ a vs ns, vals = [Value.ref a] ∧ args = [WData.list (ns.map WData.int)] ∧ h.get? a = some { cls := .type "list", data := .seq vs.toArray } ∧ IntsAre vs ns ∧ ns.length ≤ n := by
  have hsh : WShape.hasAll [] args [.list .int] = true := (pre_splitW hpre).1
  have hc : l.pre.holds [] { args := args } = true := (pre_splitW hpre).2
  obtain ⟨d, r, rfl, h1, h2⟩ := hasAllW_cons hsh
  obtain rfl := hasAllW_nil h2
  obtain ⟨xs, rfl, h3⟩ := hasW_list h1
  obtain ⟨ns, rfl⟩ := items_int h3
  have hlen : ns.length ≤ n := by
    unfold OpenLaw.pre at hc
    have h4 : (WTm.not (.lt (.lit (.int (n : Int))) (.len (.arg 0)))).holds [] { args := [.list (ns.map .int)] } = true := by
      have h4 := (holds_andW hc).1
      rw [hn] at h4
      exact h4
    have h5 := condW_of h4 (w_not (w_lt w_lit (w_len_list (w_arg rfl))))
    rw [List.length_map] at h5
    refine Nat.le_of_not_lt fun q => ?_
    have q' : (n : Int) < ((ns.length : Nat) : Int) := by omega
    first
      | (rw [decide_eq_true q'] at h5; exact absurd h5 (by decide))
      | (simp at h5; omega)
  cases hwl with
  | cons w1 w2 =>
    cases w2
    cases w1 with
    | list ho hall => exact ⟨_, _, ns, rfl, rfl, ho, ints_of_wellAll ns _ hall, hlen⟩
theorem post_true (l : OpenLaw) (args : List WData) : l.row.toRowW.claim.post args (.bool true) args = true :=
  postW_of (r := l.row.toRowW) (X := (true == true))
    (show WShape.has [] (.bool true) .bool = true by first | rfl | decide | simp [WShape.has, WShape.arms, WShape.armsAll])
    (show (WTm.eq .res (.lit (.bool true))).value [] { args := args, res := some (.bool true), after := args } = some (.bool (true == true)) from w_eq_bool (w_res rfl) w_lit) rfl
theorem attach_call {l : OpenLaw} {n : Nat} {q : Program} {loose : List Str} {XP : (Str → Option Value) → Heap → Prop} {YP : World → Heap → Prop} {d : DefRec}
    (hn : l.most = some n) (hdf : d.params.defaults = [])
    (call : ∀ (w : World) (s₀ s₁ : Shared) (mg mb : Str → Option Value) (fa : Addr) (o : Obj) (pm cd doc : Value) (a : Addr) (vs : List Value) (ns : List Int),
      Ground q loose [] XP w s₀ mg mb s₁.heap → YP w s₁.heap →
      s₁.heap.get? fa = some o → o.data = .func (docDef d.name d.params d.body d.scope pm cd doc) → s₁.heap.CodeRec cd d.name → mg d.name = some (.ref fa) →
      s₁.heap.get? a = some { cls := .type "list", data := .seq vs.toArray } → IntsAre vs ns → ns.length ≤ n → s₁.gens = #[] →
      codeAny (model l.prog w) callerA (.call (.ref fa) ⟨[.ref a], []⟩) (fun r s' => r = .ok (.ret (.bool true)) ∧ OldK s₁.heap s'.heap ∧ s'.os = s₁.os ∧ AllBare s'.gens) s₁) :
    WalkO q loose XP YP l.row.toRowW d [] (fun f vs => PySem.call f vs) := by
  intro w s₀ s₁ mg mb G Y fa o pm cd doc dV kV ho hd hcd hD hmg hg args vals as hpre hlay hrd hwl hlo
  obtain rfl : dV = .none := Dflts.none hD hdf
  obtain rfl : kV = .none := Dflts.noKw hD
  obtain ⟨a, vs, ns, rfl, rfl, hobj, hints, hlen⟩ := script_of hn hpre hwl
  refine enter_call (codeAny_mono (call w s₀ s₁ mg mb fa o pm cd doc a vs ns G Y ho (fd_plain hd) hcd hmg hobj hints hlen hg) fun r s' hq => ?_)
  obtain ⟨rfl, h2, h3, h4⟩ := hq
  exact ⟨.inl ⟨.bool true, .bool true, [], rfl, fun _ => rfl, .bool true, post_true l _, fun _ => ⟨List.Pairwise.nil, fun _ hm => (nomatch hm)⟩⟩, h2, h3, h4⟩
section
variable {prog : Program} {w : World} {A : Around} {E : Value → Shared → Prop} {s : Shared} {K : Frag}
def ledger (h : Heap) (L d : Addr) : List (Addr × Obj) := (List.range h.objs.size).filterMap fun a => if a = L ∨ a = d then none else (h.get? a).map fun o => (a, o)
end
end Att
namespace L2
open PySem PySem.Spec PyProof.Rows
theorem vals_ints : ∀ {vs : List Value} {ns : List Int}, IntsAre vs ns → Vals (ns.map V.int) vs
  | _, _, .nil => .nil
  | _, _, .cons n t h => .cons ⟨t, rfl⟩ (vals_ints h)
def Only (H : Hp) : Prop := ∀ b, H b = none ∨ ∃ o xs, H b = some (.frz o (.lst xs))
theorem law_call {P : Program} {w : World} {K : PySem.W.Frag} {mg mb : Str → Option Value} {CX : CXT} {k : Nat} {fa a : Addr} {fd : FuncData} {x : Str} {sp : Sp} {s₁ : Shared} {vs : List Value} {ns : List Int}
    (KX : K.In s₁.heap) (hns : s₁.heap.Ns mainGlobals mg) (hb : s₁.heap.Ns builtinsNs mb) (hbb : ∀ x : Str, x ≠ "__name__" → mb x = bootBuiltins x) (hlim : s₁.heap.NoLimit) (hg : s₁.gens = #[])
    (ha : s₁.heap.get? a = some { cls := .type "list", data := .seq vs.toArray }) (hi : IntsAre vs ns) (hl : ns.length ≤ sizeLine) (hr : Room k callerA)
    (F : ∀ base : Heap, K.In base → base.Ns mainGlobals mg → FnOk P w K mg base CX k fa fd [x] sp) (hbind : ∀ (s : Shared) (u : Value), BindsTo s fd ⟨[u], []⟩ [(x, u)])
    (hsp : ∀ H : Hp, Only H → SqL K H a (ns.map V.int) → sp [.ref a] H (fun v _ => v = .bl true) fun _ _ _ => False)
    (hCX : ∀ H e s', CX [] H s₁ (fun _ _ _ => False) e s' → False) :
    codeAny (model P w) callerA (.call (.ref fa) ⟨[.ref a], []⟩) (fun r s' => r = .ok (.ret (.bool true)) ∧ OldK s₁.heap s'.heap ∧ s'.os = s₁.os ∧ AllBare s'.gens) s₁ := by
  have rv := vals_ints hi
  have lenV := hi.length
  -- from an abstract heap in which nothing but the script may be tracked
  have core : ∀ H : Hp, Only H → SqL K H a (ns.map V.int) → HOk P w H s₁.heap → (∀ b, H b ≠ none → b = a) → (H a ≠ none → K.lookup a = none) →
      codeAny (model P w) callerA (.call (.ref fa) ⟨[.ref a], []⟩) (fun r s' => r = .ok (.ret (.bool true)) ∧ OldK s₁.heap s'.heap ∧ s'.os = s₁.os ∧ AllBare s'.gens) s₁ := by
    intro H hO hS hok hA hK
    have base_of : ∀ {b : Addr} {o : Obj}, s₁.heap.get? b = some o → H b = none → (hidT s₁.heap H).get? b = some o := fun e n => hidT_get e n
    have noA : ∀ {b : Addr} {o : Obj} {es : Array DictEntry} {ep : Nat}, s₁.heap.get? b = some o → o.data = .dict es ep → H b = none := fun {b o es ep} e d => by
      cases q : H b with
      | none => rfl
      | some u =>
        have e' : b = a := hA b (by rw [q]; simp)
        subst e'
        rw [ha] at e; cases e
        have d' : Data.seq vs.toArray _ = Data.dict es ep := d
        cases d'
    have nsK : ∀ {b : Addr} {m : Str → Option Value}, s₁.heap.Ns b m → (hidT s₁.heap H).Ns b m := fun {b m} ⟨o, es, ep, e, d, r⟩ => ⟨o, es, ep, base_of e (noA e d), d, r⟩
    have hKb : K.In (hidT s₁.heap H) := fun b o e => base_of (KX b o e) (by
      cases q : H b with
      | none => rfl
      | some u =>
        have e' : b = a := hA b (by rw [q]; simp)
        subst e'
        rw [hK (by rw [q]; simp)] at e; cases e)
    have hM : Mod K mg (hidT s₁.heap H) := ⟨hKb, nsK hns, ⟨mb, nsK hb, hbb⟩, let ⟨mc, h1, h2⟩ := hlim; ⟨mc, nsK h1, h2⟩⟩
    have e0 : Env0 P w K mg (hidT s₁.heap H) callerA [] s₁ H := ⟨rfl, hM, fun b o e => of_hidT e, Nat.le_of_eq (hidT_size _ _), trivial, fun b hb => absurd (show b ∈ ([] : List Addr) from hb) (by simp), hok, .of_eq hg⟩
    refine codeAny_mono ((F _ hKb (nsK hns)).run callerA [] s₁ H ⟨[.ref a], []⟩ [.ref a] [.ref a] _ _ hr e0 (hbind s₁ (.ref a)) (.cons rfl .nil) (hsp H hO hS)) fun r s' h => ?_
    cases r with
    | error e => exact (hCX H e s' h).elim
    | ok fl =>
      cases fl with
      | next => exact False.elim h
      | brk => exact False.elim h
      | cont => exact False.elim h
      | ret u =>
        obtain ⟨v, H', os, bare, un, hok', r', q⟩ := h
        have q' : v = .bl true := q
        subst q'
        obtain rfl : u = Value.bool true := r'
        refine ⟨rfl, OldK.of_keep fun b o e => ?_, os, bare⟩
        cases q : H b with
        | none => exact un.keep b o e q (by intro z; exact absurd (show b ∈ ([] : List Addr) from z) (by simp)) (by simp)
        | some u =>
          rcases hO b with z | ⟨ob, xs, z⟩
          · rw [q] at z; cases z
          · have z2 := un.frzs b ob _ z
            obtain ⟨e1, _⟩ := hok b _ z
            obtain ⟨e2, _⟩ := hok' b _ z2
            rw [e] at e1; cases e1
            exact e2
  cases hk : K.lookup a with
  | some o =>
    -- the script is one of the module's own objects
    have e := KX a o hk
    rw [ha] at e
    cases e
    refine core (fun _ => none) (fun _ => .inl rfl) (.inr ⟨_, vs.toArray, _, hk, rfl, rfl, rfl, by rw [List.size_toArray, lenV]; exact hl, by simpa using rv⟩) (fun b u z => by have z' : (none : Option HO) = some u := z; cases z') (fun b z => absurd rfl z) fun z => absurd rfl z
  | none =>
    refine core (fun b => if b = a then some (.frz { cls := .type "list", data := .seq vs.toArray } (.lst (ns.map V.int))) else none) (fun b => ?_) (.inl (.inr ⟨{ cls := .type "list", data := .seq vs.toArray }, if_pos rfl⟩)) (fun b u z => ?_) (fun b z => ?_) fun _ => hk
    · by_cases hb : b = a
      · exact .inr ⟨_, _, if_pos hb⟩
      · exact .inl (if_neg hb)
    · by_cases hb : b = a
      · have z' := (if_pos hb).symm.trans z
        cases z'
        subst hb
        exact ⟨ha, by rw [List.length_map]; exact hl, vs, _, rv, ha⟩
      · have z' := (if_neg hb).symm.trans z
        cases z'
    · by_cases hb : b = a
      · exact hb
      · exact absurd (if_neg hb) z
end L2
namespace L2
open PySem PySem.Spec PyProof.Rows
abbrev KOf {K : PySem.W.Frag} {h : Heap} (_ : K.In h) : PySem.W.Frag := K
theorem walk_of {l : PySem.W.OpenLaw} {n k : Nat} {q : Program} {loose : List Str} {XP : (Str → Option Value) → Heap → Prop} {YP : World → Heap → Prop} {d : DefRec} {K : Params → PySem.W.Frag} {CX : World → CXT} {sp : World → Sp} {x : Str}
    (hn : l.most = some n) (hn2 : n ≤ sizeLine) (hdf : d.params.defaults = []) (hr : Room k callerA)
    (hY : ∀ (w : World) (h : Heap), YP w h → (K w.params).In h)
    (F : ∀ (w : World) (mg : Str → Option Value) (fa : Addr) (h : Heap), (K w.params).In h → h.Ns mainGlobals mg → mg d.name = some (.ref fa) →
      ∃ fd : FuncData, (∀ (s : Shared) (u : Value), BindsTo s fd ⟨[u], []⟩ [(x, u)]) ∧
        ∀ base : Heap, (K w.params).In base → base.Ns mainGlobals mg → FnOk l.prog w (K w.params) mg base (CX w) k fa fd [x] (sp w))
    (hsp : ∀ (w : World) (H : Hp) (a : Addr) (ns : List Int), ns.length ≤ n → Only H → SqL (K w.params) H a (ns.map V.int) → sp w [.ref a] H (fun v _ => v = .bl true) fun _ _ _ => False)
    (hCX : ∀ (w : World) (H : Hp) (s : Shared) (e : Value) (s' : Shared), CX w [] H s (fun _ _ _ => False) e s' → False) :
    PySem.W.WalkO q loose XP YP l.row.toRowW d [] (fun f vs => PySem.call f vs) := by
  refine Att.attach_call hn hdf fun w s₀ s₁ mg mb fa o pm cd doc a vs ns G Y ho hd hcd hmg hobj hints hlen hg => ?_
  have KX := hY w _ Y
  obtain ⟨fd, hb, hF⟩ := F w mg fa _ KX G.T.g hmg
  exact law_call KX G.T.g G.T.b G.T.builtins G.T.nolimit hg hobj hints (Nat.le_trans hlen hn2) hr hF hb (fun H hO hS => hsp w H a ns hlen hO hS) fun H e s' => hCX w H s₁ e s'
end L2
/- THE LAST THEOREM (shape; LID, My.* are yours):
   My.Adr: a structure of the addresses that your layer names (classes, functions); My.Txt K t: a structure (Prop) of the equations over K;
   My.txt_mk : {K} {implicit addresses ..} (e1 : nsIn K mainGlobals "law" = some (some (.ref f))) (e2 : K.lookup f = some ⟨oc, od, .func (fnOf "law" "law" params body scope dV kV doc pm an cdv ct), sl⟩) (e3 : codeIn K cdv "law" = true) .. : ∃ t, My.Txt K t
set_option maxRecDepth 100000 in
set_option maxHeartbeats 0 in
theorem PySem.Challenge.cw_LID_holds : PySem.Challenge.rw_LID.Holds := by
  w_on; o_law; k_head; (case hw => w_witness2)
  k_fill
  refine L2.walk_of (l := PySem.Challenge.rw_LID) (n := 63) (k := 40) (x := "script") (CX := fun w => ..) (sp := fun _ => My.sp_law) rfl (by decide) rfl ⟨rfl, by decide, by decide⟩ (fun w h Y => PySem.W.kIn_of Y) ?F ?S ?C
  case F =>
    intro w mg fa h KX G hmg
    have T : ∃ t, My.Txt (L2.KOf KX) t := by
      dsimp only [L2.KOf]                          -- K must stand as «<heap const> w.params» for k_is
      refine' My.txt_mk ?e1 ?e2 ?e3 ..
      (case e1 => PySem.W.k_is)                    -- in the order: a name -> its address -> its object -> its parts
      (case e2 => PySem.W.k_is)
      ..
    obtain ⟨t, T⟩ := T
    have e0 := hmg.symm.trans (PySem.W.mg_of KX G T.law)
    cases e0                                       -- fa is the law's own address
    exact ⟨_, fun s u => .of_eq rfl, fun base kb nb => My.law_fn T kb nb⟩     -- if «.of_eq rfl» comes too early: refine' ⟨_, ?b, fun base kb nb => My.law_fn T kb nb⟩; exact fun s u => .of_eq rfl
  case S => exact fun w H a ns hl hO hS => ..
  case C => exact ..
(the tactic k_is has no namespace: write k_is) -/
namespace L2
open PySem PySem.Spec PyProof.Rows
def defArgs (s : Stmt) : Arguments := match s with
  | .FunctionDef _ a _ _ _ _ _ _ _ _ => a
  | _ => { posonlyargs := [], args := [], vararg := none, kwonlyargs := [], kw_defaults := [], kwarg := none, defaults := [] }
def defBody (s : Stmt) : List Stmt := match s with
  | .FunctionDef _ _ b _ _ _ _ _ _ _ => b
  | _ => []
def defScope (s : Stmt) : Scope := match s with
  | .FunctionDef _ _ _ _ _ _ sc _ _ _ => sc
  | _ => { kind := .function, names := [], isGenerator := false, isCoroutine := false }
abbrev CX0 : CXT := fun _ _ _ _ _ _ => False
abbrev E0 : XK := fun _ _ _ => False
theorem pass0 {X : Cx} : Passes CX0 X E0 := fun _ _ _ _ _ _ _ h => h.elim
structure Fun (K : PySem.W.Frag) (x qual : Str) (st : Stmt) (f : Addr) (fd : FuncData) : Prop where
  ex : ∃ (oc : Value) (od : Option Addr) (kV doc pm : Value) (an : Option Addr) (cdv ct : Value) (osl : Array (Option Value)),
    fd = PySem.W.fnOf x qual (defArgs st) (defBody st) (defScope st) .none kV doc pm an cdv ct ∧ K.lookup f = some ⟨oc, od, .func fd, osl⟩ ∧ PySem.W.codeIn K cdv qual = true
  kp : PySem.W.keepIn K (.ref f) = true
section
variable {P : Program} {w : World} {K : PySem.W.Frag} {mg : Str → Option Value} {base : Heap}
theorem Fun.ok {x qual : Str} {st : Stmt} {f : Addr} {fd : FuncData} {N ps : List Str} {k : Nat} {sp : Sp} (F : Fun K x qual st f fd) (S : FnScope N ps (defScope st)) (len : ∀ vs H Q E, sp vs H Q E → vs.length = ps.length)
    (hbody : ∀ (cdv : Value) (A : Around) (outer : List Env) (s : Shared) (H : Hp) (vs : List V) (Q : VK) (E : XK), Room k (A.deeper (envOfC qual (defScope st) s.heap.objs.size f cdv)) → sp vs H Q E →
      ∃ t, PSs (cxOf CX0 P w K mg base N qual (defScope st) f cdv A outer s H E).nox (defBody st) t ∧ t { nx := fun _ H' => Q .non H', rt := Q } (start N vs) H) : FnOk P w K mg base CX0 (k + 1) f fd ps sp := by
  obtain ⟨oc, od, kV, doc, pm, an, cdv, ct, osl, rfl, lk, hcd⟩ := F.ex
  refine fn_of lk hcd S len fun A outer s H vs Q E hr hsp => ?_
  obtain ⟨t, h, q⟩ := hbody cdv A outer s H vs Q E hr hsp
  exact ⟨t, h.nox, q⟩
theorem Fun.binds {x qual : Str} {st : Stmt} {f : Addr} {fd : FuncData} {ps : List Str} (F : Fun K x qual st f fd)
    (h : ∀ (kV doc pm : Value) (an : Option Addr) (cdv ct : Value) (us : List Value), us.length = ps.length → bindArgs (PySem.W.fnOf x qual (defArgs st) (defBody st) (defScope st) .none kV doc pm an cdv ct) ⟨us, []⟩ = pure (ps.zip us)) : Binds K fd ps [] := by
  obtain ⟨oc, od, kV, doc, pm, an, cdv, ct, osl, rfl, lk, hcd⟩ := F.ex
  exact .all (h kV doc pm an cdv ct)
theorem fun_mk {x qual : Str} {st : Stmt} {f : Addr} {oc : Value} {od an : Option Addr} {osl : Array (Option Value)} {kV doc pm cdv ct : Value} (l : K.lookup f = some ⟨oc, od, .func (PySem.W.fnOf x qual (defArgs st) (defBody st) (defScope st) .none kV doc pm an cdv ct), osl⟩)
    (c : PySem.W.codeIn K cdv qual = true) (k : PySem.W.keepIn K (.ref f) = true) : Fun K x qual st f (PySem.W.fnOf x qual (defArgs st) (defBody st) (defScope st) .none kV doc pm an cdv ct) := ⟨⟨oc, od, kV, doc, pm, an, cdv, ct, osl, rfl, l, c⟩, k⟩
end
section
variable {X : Cx}
end
def Same (H H' : Hp) : Prop := ∀ b o, H b = some o → H' b = some o
theorem Same.refl (H : Hp) : Same H H := fun _ _ h => h
theorem Same.trans {H H1 H2 : Hp} (a : Same H H1) (b : Same H1 H2) : Same H H2 := fun c o h => b c o (a c o h)
theorem Same.free {H H' : Hp} (e : Same H H') {l : Addr} (h : H' l = Option.none) : H l = Option.none := by
  cases q : H l with
  | none => rfl
  | some o =>
    rw [e l o q] at h
    cases h
theorem Same.seq {K : PySem.W.Frag} {H H' : Hp} {a : Addr} {xs : List V} (e : Same H H') (h : SqL K H a xs) : SqL K H' a xs := by
  rcases h with (h | ⟨o, h⟩) | h
  · exact .inl (.inl (e _ _ h))
  · exact .inl (.inr ⟨o, e _ _ h⟩)
  · exact .inr h
end L2
set_option Elab.async false
set_option linter.all false
set_option maxRecDepth 100000
namespace L2
open PySem PySem.Spec PyProof.Rows
theorem compLoop_any {prog : Program} {w : World} {A : Around} {R : Result → Shared → Prop} {s : Shared} {elt target iter : Expr} {ifs : List Expr} {scope : Scope} {pos : Pos} {it acc : Value} {env : Env} (I : Nat → Shared → Prop)
    (turn : ∀ n s, I n s → wpAny (model prog w) A (pyNext it) (fun r s₁ => match r with
      | none => R (.ok .next) s₁
      | some v => wpAny (model prog w) A (letOwnedTupleGo target it v) (fun _ s₁' => wpAny (model prog w) A (assign target env v) (fun _ s₂ =>
          wpAny (model prog w) A (forIn ifs true fun c r => if r = true then do let ok ← isTrue c env (eval c env); pure (ForInStep.yield ok) else pure (ForInStep.yield r)) (fun ok s₃ =>
            if ok = true then wpAny (model prog w) A (eval elt env) (fun x s₄ =>
              wpAny (model prog w) A (call (.builtin "list.append") [acc, x]) (fun _ s₅ => ∃ m, m < n ∧ I m s₅) (fun _ _ => False) s₄) (fun _ _ => False) s₃
            else ∃ m, m < n ∧ I m s₃) (fun _ _ => False) s₂) (fun _ _ => False) s₁') (fun _ _ => False) s₁) (fun _ _ => False) s)
    (n : Nat) (h : I n s) :
    codeAny (model prog w) A (.compLoop (.ListComp elt [⟨target, iter, ifs, 0⟩] scope pos) 0 it acc env) R s := by
  refine codeAny_loop rfl I (fun n s hI => ?_) n h
  show wpAny _ A ((compTurn (.ListComp elt [⟨target, iter, ifs, 0⟩] scope pos) 0 it acc env).onRaise (fun x => do noteFrame x env; theTreesLotGoes x)) _ _ s
  refine wpAny_noted ?_
  rw [compTurn_list]
  refine wpAny_bind (wpAny_standAt (wpAny_bind (wpAny_mono (turn n s hI) (fun r s₁ h₁ => ?_) fun _ _ h' => h'.elim)))
  cases r with
  | none => exact wpAny_pure h₁
  | some v =>
    refine wpAny_bind (wpAny_mono h₁ (fun _ s₁' h₁' => ?_) fun _ _ h' => h'.elim)
    refine wpAny_bind (wpAny_mono h₁' (fun _ s₂ h₂ => wpAny_bind (wpAny_mono h₂ (fun ok s₃ h₃ => ?_) fun _ _ h' => h'.elim)) fun _ _ h' => h'.elim)
    cases ok with
    | false => exact wpAny_pure ⟨rfl, h₃⟩
    | true =>
      exact wpAny_bind (wpAny_bind (wpAny_mono h₃ (fun x s₄ h₄ => wpAny_bind (wpAny_mono h₄ (fun _ s₅ h₅ => wpAny_pure (wpAny_pure ⟨rfl, h₅⟩)) fun _ _ h' => h'.elim)) fun _ _ h' => h'.elim))
def PTs (X : Cx) (ifs : List Expr) (t : TT) : Prop :=
  ∀ (pins : List (Addr × Obj)) (s : Shared) (σ : St) (H : Hp) (Q : Bool → Hp → Prop), Inv X pins σ H s → t σ H Q →
    wpAny (model X.prog X.w) X.A (forIn ifs true fun c r => if r = true then do let ok ← isTrue c X.env (eval c X.env); pure (ForInStep.yield ok) else pure (ForInStep.yield r)) (TP X pins σ Q) X.xe s
def tYes : TT := fun _ H Q => Q true H
theorem pts_nil {X : Cx} : PTs X [] tYes := fun _ _ _ H _ I h => wpAny_tests_nil ⟨H, I, h⟩
theorem pts_one {X : Cx} {c : Expr} {t : TT} (h : PT X c t) : PTs X [c] t := fun pins s σ H Q I hw => wpAny_tests_one (h pins s σ H Q I hw)
theorem closure_ex {env : Env} : ∀ (names : List (Str × NameKind)) (acc : List (Str × Addr)), (∀ y ∈ names, y.2 = .free → ∃ c, env.cells.lookup y.1 = some c) → (∀ y ∈ acc, env.cells.lookup y.1 = some y.2) →
    ∃ cl : List (Str × Addr), (forIn (m := Sem) names acc fun (x : Str × NameKind) cs => if (x.2 == NameKind.free) = true then (do let a ← cellOf env x.1; pure (ForInStep.yield ((x.1, a) :: cs))) else pure (ForInStep.yield cs)) = pure cl ∧
      (∀ y ∈ cl, env.cells.lookup y.1 = some y.2) ∧ (∀ y ∈ acc, y ∈ cl) ∧ ∀ y ∈ names, y.2 = .free → ∃ c, (y.1, c) ∈ cl
  | [], acc, _, ha => ⟨acc, rfl, ha, fun _ h => h, fun _ h => nomatch h⟩
  | (n, k) :: r, acc, hf, ha => by
    by_cases hk : k = .free
    · subst hk
      obtain ⟨c, hc⟩ := hf (n, .free) List.mem_cons_self rfl
      obtain ⟨cl, e, h1, h2, h3⟩ := closure_ex r ((n, c) :: acc) (fun y hy => hf y (List.mem_cons_of_mem _ hy)) (fun y hy => by
        rcases List.mem_cons.mp hy with rfl | hy
        · exact hc
        · exact ha y hy)
      refine ⟨cl, ?_, h1, fun y hy => h2 y (List.mem_cons_of_mem _ hy), fun y hy hk => ?_⟩
      · rw [List.forIn_cons]
        have e1 : cellOf env n = pure c := by unfold cellOf; rw [hc]
        simp only [beq_self_eq_true, if_true, e1]
        exact e
      · rcases List.mem_cons.mp hy with rfl | hy
        · exact ⟨c, h2 _ List.mem_cons_self⟩
        · exact h3 y hy hk
    · have hb : (k == NameKind.free) = false := by simpa using hk
      obtain ⟨cl, e, h1, h2, h3⟩ := closure_ex r acc (fun y hy => hf y (List.mem_cons_of_mem _ hy)) ha
      refine ⟨cl, ?_, h1, h2, fun y hy hk' => ?_⟩
      · rw [List.forIn_cons]
        simp only [hb, Bool.false_eq_true, if_false]
        exact e
      · rcases List.mem_cons.mp hy with rfl | hy
        · exact absurd hk' hk
        · exact h3 y hy hk'
theorem closureFor_ex {env : Env} {scope : Scope} (hf : ∀ y ∈ scope.names, y.2 = .free → ∃ c, env.cells.lookup y.1 = some c) :
    ∃ cl : List (Str × Addr), closureFor scope env = pure cl ∧ (∀ y ∈ cl, env.cells.lookup y.1 = some y.2) ∧ ∀ y ∈ scope.names, y.2 = .free → ∃ c, (y.1, c) ∈ cl := by
  obtain ⟨cl, e, h1, _, h3⟩ := closure_ex scope.names [] hf (fun _ h => nomatch h)
  refine ⟨cl, ?_, h1, h3⟩
  unfold closureFor
  simp only [bind_pure]
  exact e
end L2
set_option Elab.async false
set_option linter.all false
set_option maxRecDepth 100000
namespace L2
open PySem PySem.Spec PyProof.Rows
abbrev cxComp (X : Cx) (scope : Scope) (cl : List (Str × Addr)) (C : Addr) (N : List Str) (s₀ : Shared) (H₀ : Hp) (ex : List Addr) : Cx where
  prog := X.prog
  w := X.w
  K := X.K
  mg := X.mg
  base := X.base
  A := X.A
  N := N
  s₀ := s₀
  H₀ := H₀
  env := compEnvC scope cl C X.env
  outer := X.stack
  stack := X.stack
  ex := ex
  fn := fun _ => false
  calm := X.calm
  pn := []
  xe := fun _ _ => False
theorem lookup_mem {α β : Type} [BEq α] [LawfulBEq α] {l : List (α × β)} {x : α} {y : β} (h : l.lookup x = some y) : (x, y) ∈ l := by
  induction l with
  | nil => cases h
  | cons p r ih =>
    obtain ⟨a, b⟩ := p
    rw [List.lookup_cons] at h
    cases e : (x == a) with
    | true => rw [e] at h; cases h; rw [eq_of_beq e]; exact List.mem_cons_self
    | false => rw [e] at h; exact List.mem_cons_of_mem _ (ih h)
theorem mem_lookup {α β : Type} [BEq α] [LawfulBEq α] {l : List (α × β)} {x : α} {y : β} (h : (x, y) ∈ l) : ∃ z, l.lookup x = some z := by
  induction l with
  | nil => cases h
  | cons p r ih =>
    obtain ⟨a, b⟩ := p
    rw [List.lookup_cons]
    cases e : (x == a) with
    | true => exact ⟨_, rfl⟩
    | false =>
      rcases List.mem_cons.mp h with q | q
      · cases q; simp at e
      · exact ih q
theorem relabel_mem {scope : Scope} {env : Env} {y : Str} {k : NameKind} (h : (y, k) ∈ (relabel scope env).names) : (y, k) ∈ scope.names ∨ (k = .cell ∧ (y, NameKind.free) ∈ scope.names) := by
  unfold relabel at h
  obtain ⟨⟨n, k'⟩, hm, e⟩ := List.mem_map.mp h
  dsimp only at e
  split at e
  · rename_i hc
    cases e
    have : k' = .free := by
      have := hc
      simp only [Bool.and_eq_true, beq_iff_eq] at this
      exact this.1.1
    subst this
    exact .inr ⟨rfl, hm⟩
  · cases e; exact .inl hm
theorem lookup_relabel_free {env : Env} : ∀ {names : List (Str × NameKind)} {x : Str}, names.lookup x = some .free →
    (names.map fun (n, k) => if (k == NameKind.free && env.scope.kind == .function && env.kindOf n == some .cell) then (n, NameKind.cell) else (n, k)).lookup x = some .cell ∨
    (names.map fun (n, k) => if (k == NameKind.free && env.scope.kind == .function && env.kindOf n == some .cell) then (n, NameKind.cell) else (n, k)).lookup x = some .free
  | [], _, h => by simp at h
  | (n, k) :: r, x, h => by
    have ih := @lookup_relabel_free env r x
    show List.lookup x ((if (k == NameKind.free && env.scope.kind == .function && env.kindOf n == some .cell) = true then (n, NameKind.cell) else (n, k)) :: _) = _ ∨ List.lookup x ((if (k == NameKind.free && env.scope.kind == .function && env.kindOf n == some .cell) = true then (n, NameKind.cell) else (n, k)) :: _) = _
    cases hx : x == n with
    | true =>
      simp only [List.lookup_cons, hx] at h
      cases h
      by_cases hc : (NameKind.free == NameKind.free && env.scope.kind == .function && env.kindOf n == some .cell) = true
      · rw [if_pos hc]; simp [List.lookup_cons, hx]
      · rw [if_neg hc]; simp [List.lookup_cons, hx]
    | false =>
      simp only [List.lookup_cons, hx] at h
      by_cases hc : (k == NameKind.free && env.scope.kind == .function && env.kindOf n == some .cell) = true
      · rw [if_pos hc]; simp only [List.lookup_cons, hx]; exact ih h
      · rw [if_neg hc]; simp only [List.lookup_cons, hx]; exact ih h
def compSt (fs : List Nat) (σ : St) : St := fs.map fun j => (σ[j]?).join
def tComp (wi : TI) (fs : List Nat) (tt : TT) (te : TE) : TE := fun σ H Q => wi σ H fun J H1 => ∃ W : Nat → Nat → List V → Hp → Prop, (∃ m, W 0 m [] H1) ∧ ∀ i m ys H, W i m ys H → ys.length ≤ sizeLine ∧
  ((J.stop i H ∧ ∀ p, H p = none → Q (.ref p) (upd H p (.lst ys))) ∨
   (J.go i H ∧ ys.length < sizeLine ∧ ∀ x H', J.yld i H x H' → tt (some x :: compSt fs σ) H' fun b H2 => if b = true then te (some x :: compSt fs σ) H2 fun y H3 => ∃ m', m' < m ∧ W (i + 1) m' (ys ++ [y]) H3 else ∃ m', m' < m ∧ W (i + 1) m' ys H2))
section
variable {X : Cx}
theorem comp_block {elt iter : Expr} {x : Str} {px pos : Pos} {ifs : List Expr} {scope : Scope} {fs : List (Str × Nat)} {tt : TT} {te : TE}
    {pins : List (Addr × Obj)} {σ : St} {H2 : Hp} {s2 : Shared} {it : Addr} {fp : List Addr} {tn : Nat → Heap → Prop} {J : It} {cl : List (Str × Addr)} {E : Value → Shared → Prop}
    {P : Value → Addr → Result → Shared → Prop}
    (hc : X.calm = true) (hkind : scope.kind = .function) (hcell : ∀ y ∈ scope.names, y.2 ≠ .cell) (hx : scope.names.lookup x = some .local)
    (hnd : (x :: fs.map (·.1)).Nodup) (hfs : ∀ f ∈ fs, X.N[f.2]? = some f.1 ∧ (X.env.kindOf f.1 = some .cell ∨ X.env.kindOf f.1 = some .free) ∧ scope.names.lookup f.1 = some .free)
    (hb : ∀ (cl : List (Str × Addr)) (C : Addr) (s₀ : Shared) (H₀ : Hp) (ex : List Addr), PTs (cxComp X scope cl C (x :: fs.map (·.1)) s₀ H₀ ex) ifs tt ∧ PE (cxComp X scope cl C (x :: fs.map (·.1)) s₀ H₀ ex) elt te)
    (hcl1 : ∀ y ∈ cl, X.env.cells.lookup y.1 = some y.2) (hcl2 : ∀ y ∈ scope.names, y.2 = .free → ∃ c, (y.1, c) ∈ cl)
    (I2 : Inv X pins σ H2 s2) (T : Turn X.prog X.w X.K (.Name x px) J fp it tn) (st2 : tn 0 s2.heap) (f2 : ∀ b ∈ fp, FpOk X pins H2 b)
    (W : Nat → Nat → List V → Hp → Prop) (Qe : Hp → List V → Prop) (w0 : ∃ m, W 0 m [] H2)
    (turn : ∀ i m ys H, W i m ys H → ys.length ≤ sizeLine ∧
      ((J.stop i H ∧ Qe H ys) ∨
       (J.go i H ∧ ys.length < sizeLine ∧ ∀ x H', J.yld i H x H' → tt (some x :: compSt (fs.map (·.2)) σ) H' fun b H2 => if b = true then te (some x :: compSt (fs.map (·.2)) σ) H2 fun y H3 => ∃ m', m' < m ∧ W (i + 1) m' (ys ++ [y]) H3 else ∃ m', m' < m ∧ W (i + 1) m' ys H2)))
    (hP : ∀ (D C : Addr) (H' : Hp) (s' : Shared) (ys : List V) (its : List Value) (m : Str → Option Value), s2.heap.objs.size ≤ C → s2.heap.get? D = none → s2.heap.get? C = none → D ≠ C → H' D = none → H' C = none → s'.heap.Ns C m → s'.heap.PlainList D its.toArray → Vals ys its → ys.length ≤ sizeLine → Qe H' ys →
      Un (frs X.stack) fp H2 H' s2.heap s'.heap → HOk X.prog X.w H' s'.heap → AllBare s'.gens → s'.os = s2.os → P (.ref D) C (.ok .next) s') :
    wpAny (model X.prog X.w) X.A (newList []) (fun acc s₃ => wpAny (model X.prog X.w) X.A (newFunctionEnv scope X.env.globals cl [] X.env.qual none .none (some X.env)) (fun cenv s₄ =>
      codeAny (model X.prog X.w) X.A (.compStart (.ListComp elt [⟨.Name x px, iter, ifs, 0⟩] scope pos) 0 (.ref it) acc { cenv with scope := relabel scope X.env }) (P acc cenv.locals) s₄) E s₃) E s2 := by
  refine wpAny_newObj_type (wpAny_newFunctionEnv hcell (by intro y hy; simp at hy) (fun h₁ hns₁ hsb₁ => ?_) hkind)
  dsimp only at hns₁ hsb₁ ⊢
  generalize hH2 : s2.heap.push { cls := .type "list", dict := none, data := .seq ([] : List Value).toArray } = HH at hns₁ hsb₁ ⊢
  have hC : HH.objs.size = s2.heap.objs.size + 1 := by rw [← hH2, Heap.size_push]
  generalize eD : s2.heap.objs.size = D at *
  generalize eC : HH.objs.size = C at *
  have hDC : D ≠ C := by rw [hC]; exact Nat.ne_of_lt (Nat.lt_succ_self _)
  have fresh : ∀ a, D ≤ a → s2.heap.get? a = none := fun a ha => Heap.get?_none_of_le (by rw [eD]; exact ha)
  have hD0 : s2.heap.get? D = none := fresh D (Nat.le_refl _)
  have hC0 : s2.heap.get? C = none := fresh C (by rw [hC]; exact Nat.le_succ _)
  have old : ∀ b o, s2.heap.get? b = some o → h₁.get? b = some o := fun b o e => hsb₁.extBut b o (fun z => by rw [z, hC0] at e; cases e) (Heap.get?_push_of_some _ (hH2 ▸ Heap.get?_push_of_some _ e))
  have hacc : h₁.PlainList D #[] := ⟨0, hsb₁.extBut _ _ hDC (Heap.get?_push_of_some _ (hH2 ▸ (eD ▸ Heap.get?_push_size _ rfl)))⟩
  have HD : H2 D = none := I2.hok.fresh (by rw [eD]; exact Nat.le_refl _)
  have HC : H2 C = none := I2.hok.fresh (by rw [eD, hC]; exact Nat.le_succ _)
  -- the block's context
  let Y : Cx := cxComp X scope cl C (x :: fs.map (·.1)) s2 H2 fp
  have lk : ∀ y c, cl.lookup y = some c → X.env.cells.lookup y = some c := fun y c e => hcl1 (y, c) (lookup_mem e)
  have yok : Y.Ok := by
    refine ⟨I2.ok.mod, hkind, I2.ok.glob, I2.ok.blt, ?_, fun y z c h1 h2 => I2.ok.inj y z c (lk y c h1) (lk z c h2), fun y hy => ?_, fun _ _ h _ => absurd h Bool.false_ne_true, I2.ok.hd, I2.ok.frames, .inl rfl, fun b hb => ?_, I2.bs, ?_, fun b o e hb => ?_, fun b hb hz => ?_, I2.stack, I2.stkFree⟩
    · show s2.heap.objs.size ≤ C
      rw [eD, hC]; exact Nat.le_succ _
    · have hy' : (relabel scope X.env).names.lookup y = some .cell ∨ (relabel scope X.env).names.lookup y = some .free := hy
      have hm : (y, NameKind.free) ∈ scope.names := by
        rcases hy' with e | e
        · rcases relabel_mem (lookup_mem e) with q | ⟨_, q⟩
          · exact absurd rfl (hcell _ q)
          · exact q
        · rcases relabel_mem (lookup_mem e) with q | ⟨q, _⟩
          · exact q
          · cases q
      obtain ⟨c, q⟩ := hcl2 _ hm rfl
      exact mem_lookup q
    · obtain ⟨f0, f1, f3, f4, f5, f6⟩ := f2 b hb
      refine ⟨fun z => ?_, fun y c e => f5 y c (lk y c e)⟩
      obtain ⟨o, ho, _⟩ := T.obj _ _ st2 b hb
      have z' : b = C := z
      rw [z', hC0] at ho; cases ho
    · exact Nat.le_trans I2.ok.bsz I2.sz
    · obtain ⟨f0, f1, f3, f4, f5, f6⟩ := f2 b hb
      rcases f4 with z | z
      · exact I2.ok.noex b o e z
      · exact absurd (Nat.lt_of_lt_of_le (Heap.lt_size e) (Nat.le_trans I2.ok.bsz z)) (Nat.lt_irrefl _)
    · obtain ⟨f0, f1, f3, f4, f5, f6⟩ := f2 b hb
      rcases List.mem_cons.mp (I2.stkSub b hz) with z | z
      · exact f1 z
      · exact f3 z
  let τ : St := none :: compSt (fs.map (·.2)) σ
  have hτ : τ.length = (x :: fs.map (·.1)).length := by simp [τ, compSt]
  obtain ⟨mL, hnL, hlL⟩ := id I2.loc
  have yI : Inv Y [] τ H2 { s2 with heap := h₁, toks := s2.toks + ([] : List (Str × Value)).length } := by
    refine ⟨yok, rfl, I2.bare, Un.kept old, ⟨_, hns₁, fun i y v e1 e2 e3 => ?_⟩, fun y c e => ?_, HC, fun y c e => I2.freeC y c (lk y c e), (fun p hp => nomatch hp), I2.hok.kept old, hτ⟩
    · cases i with
      | zero => simp [τ] at e2
      | succ i =>
        have e1' : (fs.map (·.1))[i]? = some y := e1
        have e2' : (compSt (fs.map (·.2)) σ)[i]? = some (some v) := by simpa [τ] using e2
        rw [List.getElem?_map] at e1'
        cases q : fs[i]? with
        | none => rw [q] at e1'; cases e1'
        | some f =>
          rw [q] at e1'
          have ey : f.1 = y := Option.some.inj e1'
          obtain ⟨g1, g2, g3⟩ := hfs f (List.mem_of_getElem? q)
          have e2'' : (σ[f.2]?).join = some v := by
            unfold compSt at e2'
            rw [List.getElem?_map, List.getElem?_map, q] at e2'
            exact Option.some.inj e2'
          have e2c : σ[f.2]? = some (some v) := by
            cases r : σ[f.2]? with
            | none => rw [r] at e2''; cases e2''
            | some o => rw [r] at e2''; have e2'' : o = some v := e2''; rw [e2'']
          have vis : Vis X.env.scope f.1 := by
            rcases g2 with g | g
            · exact .inr (.inl g)
            · exact .inr (.inr g)
          obtain ⟨u, ru, lu⟩ := hlL f.2 f.1 v g1 e2c vis
          refine ⟨u, ru, ?_⟩
          have lu' : ∃ c, X.env.cells.lookup f.1 = some c ∧ s2.heap.IsCell c (some u) := by
            rcases lu with ⟨k, _⟩ | ⟨_, c, e, z⟩
            · rcases g2 with g | g
              · rw [k] at g; cases g
              · rw [k] at g; cases g
            · exact ⟨c, e, z⟩
          obtain ⟨c, hc1, hc2⟩ := lu'
          obtain ⟨c', hm⟩ := hcl2 _ (lookup_mem g3) rfl
          have hm' := hcl1 _ hm
          obtain ⟨c2, hl2⟩ := mem_lookup hm
          have := lk _ _ hl2
          rw [hc1] at this; cases this
          obtain ⟨oc, ho, hdt⟩ := hc2
          refine .inr ⟨?_, c, by rw [← ey]; exact hl2, oc, old c oc ho, hdt⟩
          rw [← ey]
          exact lookup_relabel_free g3
    · obtain ⟨v, oc, ho, hdt⟩ := I2.cell y c (lk y c e)
      exact ⟨v, oc, old c oc ho, hdt⟩
  have hx' : Y.env.scope.names.lookup x = some .local := lookup_relabel_local hx
  have fpD : ∀ b ∈ fp, b ≠ D := fun b hb z => by
    obtain ⟨o, ho, _⟩ := T.obj _ _ st2 b hb
    rw [z, hD0] at ho; cases ho
  have stD : D ∉ frs X.stack := fun hz => by
    rcases List.mem_cons.mp (I2.stkSub D hz) with z | z
    · have := I2.lt; rw [eD, ← z] at this; exact absurd this (Nat.lt_irrefl _)
    · exact I2.nofs (by rw [eD]; exact Nat.le_refl _) z
  have cellD : ∀ y c, cl.lookup y = some c → c ≠ D := fun y c e z => by
    obtain ⟨v, oc, ho, _⟩ := I2.cell y c (lk y c e)
    rw [z, hD0] at ho; cases ho
  have stat : ∀ {H' : Hp} {oD : Obj}, (∀ b ∈ fp, H' b = none) → ∀ b ∈ fp, FpOk Y [(D, oD)] H' b := fun hn b hb => by
    refine ⟨hn b hb, (yok.exf b hb).1, yok.exfs b hb, .inl hb, (yok.exf b hb).2, fun p hp z => ?_⟩
    have hp' : p ∈ [(D, _)] := hp
    rw [List.mem_singleton.mp hp'] at z
    exact fpD b hb z.symm
  obtain ⟨m0, w0⟩ := w0
  have loop : ∀ s₃ : Shared, s₃ = { s2 with heap := h₁, toks := s2.toks + ([] : List (Str × Value)).length } →
      codeAny (model X.prog X.w) X.A (.compLoop (.ListComp elt [⟨.Name x px, iter, ifs, 0⟩] scope pos) 0 (.ref it) (.ref D) (compEnvC scope cl C X.env)) (P (.ref D) C) s₃ := by
    rintro s₃ rfl
    refine compLoop_any (fun n s' => ∃ i ys its H', Inv Y [] τ H' s' ∧ tn i s'.heap ∧ (∀ b ∈ fp, H' b = none) ∧ H' D = none ∧ s'.heap.PlainList D (List.toArray its) ∧ Vals ys its ∧ W i n ys H') ?_ m0
      ⟨0, [], [], H2, yI, T.keep _ _ _ st2 (fun b _ o e => old b o e), fun b hb => (f2 b hb).1, HD, hacc, .nil, w0⟩
    rintro n s3 ⟨i, ys, its, H3, I3, st3, fr3, hD3, ⟨n0, hoD⟩, rv3, w3⟩
    obtain ⟨hz, ht⟩ := turn i n ys H3 w3
    have I3' : Inv Y [(D, { cls := .type "list", data := .seq its.toArray n0 })] τ H3 s3 := I3.pins_of fun p hp => by
      rw [List.mem_singleton.mp hp]
      exact ⟨hoD, hD3, hDC, stD, fun v z => by cases z⟩
    rcases ht with ⟨stop, q⟩ | ⟨go, hz', step⟩
    · refine thn (T.done Y rfl rfl rfl hc i _ s3 τ H3 _ I3' (stat fr3) st3 stop) fun r s4 ⟨hr, I4⟩ => ?_
      subst hr
      obtain ⟨m, hn, _⟩ := I4.loc
      exact hP D C H3 s4 ys its m (by rw [hC]; exact Nat.le_succ _) hD0 hC0 hDC hD3 I4.free hn ⟨n0, (I4.pin (D, _) (List.mem_append_right _ List.mem_cons_self)).1⟩ rv3 hz q I4.base I4.hok I4.bare I4.os
    · refine thn (T.item Y rfl rfl rfl hc i _ s3 τ H3 _ I3' (stat fr3) st3 go) fun r s4 ⟨u, hr, h4⟩ => ?_
      subst hr
      refine thn h4 fun _ s5 ⟨x', H5, I5, r5, y5, st5, fr5⟩ => ?_
      have I5' := I5.pinned (fp := fp) (stat fr5) (T.obj _ _ st5)
      refine thn (pg_name (X := Y) (i := 0) (pos := px) hnd rfl (.inl hx') (.inr hx') _ s5 τ H5 x' u (fun σ' H' => σ' = some x' :: compSt (fs.map (·.2)) σ ∧ H' = H5) I5' r5 ⟨rfl, rfl⟩) fun _ s6 ⟨σ6, H6, I6, e6, e6'⟩ => ?_
      subst e6 e6'
      have back : ∀ {σ' : St} {H' : Hp} {s' : Shared}, Inv Y ([(D, { cls := .type "list", data := .seq its.toArray n0 })] ++ pinsAt fp s5.heap) (some x' :: compSt (fs.map (·.2)) σ) H' s' →
          Inv Y [] τ H' s' ∧ tn (i + 1) s'.heap ∧ (∀ b ∈ fp, H' b = none) ∧ H' D = none ∧ s'.heap.PlainList D its.toArray := fun {σ' H' s'} J' => by
        refine ⟨(J'.pins_of (pins' := []) (fun p hp => absurd hp (by simp))).weak rfl fun j v e => ?_, T.keep _ _ _ st5 fun b hb o e => (J'.pin (b, o) (List.mem_append_right _ (List.mem_append_right _ (mem_pinsAt hb e)))).1, fun b hb => ?_, ?_, n0, ?_⟩
        · cases j with
          | zero => cases e
          | succ j => exact e
        · obtain ⟨o, e, d⟩ := T.obj _ _ st5 b hb
          exact (J'.pin (b, o) (List.mem_append_right _ (List.mem_append_right _ (mem_pinsAt hb e)))).2.1
        · exact (J'.pin (D, _) (List.mem_append_right _ (List.mem_append_left _ List.mem_cons_self))).2.1
        · exact (J'.pin (D, _) (List.mem_append_right _ (List.mem_append_left _ List.mem_cons_self))).1
      refine thn ((hb cl C s2 H2 fp).1 _ s6 _ _ _ I6 (step x' H6 y5)) fun ok s7 ⟨H7, I7, q7⟩ => ?_
      cases ok with
      | false =>
        obtain ⟨m', hm, w7⟩ := q7
        obtain ⟨a1, a2, a3, a4, a5⟩ := back (σ' := τ) I7
        exact ⟨m', hm, i + 1, ys, its, H7, a1, a2, a3, a4, a5, rv3, w7⟩
      | true =>
        refine thn ((hb cl C s2 H2 fp).2 _ s7 _ _ _ I7 q7) fun y s8 ⟨yv, H8, I8, ry, m', hm, w8⟩ => ?_
        obtain ⟨a1, a2, a3, a4, a5⟩ := back (σ' := τ) I8
        have hlen := rv3.length
        refine wpAny_list_append_plain (hsz := by rw [List.size_toArray, ← hlen]; exact hz) a5 fun h' hl' hs' => ?_
        refine ⟨m', hm, i + 1, ys ++ [yv], its ++ [y], H8, a1.turned (t' := s8.toks) (it := D) (fun b o hb e => hs'.extBut b o hb e) a4 hDC (.inr (by show s2.heap.objs.size ≤ D; rw [eD]; exact Nat.le_refl _)) (fun y c e => cellD y c e) (fun p hp => absurd (show p ∈ ([] : List (Addr × Obj)) from hp) (by simp)), T.keep _ _ _ a2 fun b hb o e => hs'.extBut b o (fpD b hb) e, a3, a4, by simpa using hl', rv3.append (.cons ry .nil), w8⟩
  exact codeAny_compStart_list (loop _ rfl) (T.self X.A 0 _ _ _ (T.keep _ _ _ st2 (fun b _ o e => old b o e)) (loop _ rfl))
theorem comp_after {pins : List (Addr × Obj)} {σ : St} {H2 H' : Hp} {s2 s' : Shared} {fp : List Addr} {D C : Addr} {ys : List V} {its : List Value} {h' : Heap} {tk : Nat} (I2 : Inv X pins σ H2 s2) (f2 : ∀ b ∈ fp, FpOk X pins H2 b)
    (hD : s2.heap.get? D = none) (hC : s2.heap.get? C = none) (hDC : D ≠ C) (HD : H' D = none) (HC : H' C = none) (pl : s'.heap.PlainList D its.toArray) (rv : Vals ys its) (hz : ys.length ≤ sizeLine)
    (u : Un (frs X.stack) fp H2 H' s2.heap s'.heap) (hok : HOk X.prog X.w H' s'.heap) (hg : AllBare s'.gens) (ho : s'.os = s2.os) (hs : Heap.SameBut C s'.heap h') :
    Inv X pins σ (upd H' D (.lst ys)) { s' with heap := h', toks := tk } := by
  have kC : ∀ b o, b ≠ C → s'.heap.get? b = some o → h'.get? b = some o := fun b o hb e => hs.extBut b o hb e
  have neC : ∀ b o, s2.heap.get? b = some o → b ≠ C := fun b o e z => by rw [z, hC] at e; cases e
  have neD : ∀ b o, s2.heap.get? b = some o → b ≠ D := fun b o e z => by rw [z, hD] at e; cases e
  have trD : ∀ b o, H' b = some o → b ≠ D := fun b o e z => by rw [z, HD] at e; cases e
  refine I2.call' (ch := fp) ho ⟨fun b o e n hb hx => kC b o (neC b o e) (u.keep b o e n hb hx), fun b o e n hb hx => ?_, fun b o e n hx => ?_, fun b o e hx => ?_, fun b xs e => ?_, fun b o w e => ?_, fun b ps e => ?_⟩ (fun b o e => ?_) hg fun b hb => ?_
  · obtain ⟨sl, q⟩ := u.slot b o e n hb hx
    exact ⟨sl, kC b _ (neC b o e) q⟩
  · rw [upd_ne (neD b o e)]; exact u.free b o e n hx
  · obtain ⟨o', q⟩ := u.there b o e hx
    exact ⟨o', kC b _ (neC b o e) q⟩
  · have q := u.tups b xs e
    rw [upd_ne (trD b _ q)]; exact q
  · have q := u.frzs b o w e
    rw [upd_ne (trD b _ q)]; exact q
  · obtain ⟨more, q⟩ := u.tbls b ps e
    exact ⟨more, by rw [upd_ne (trD b _ q)]; exact q⟩
  · by_cases hb : b = D
    · subst hb
      rw [upd_same] at e
      cases e
      obtain ⟨n, q⟩ := pl
      exact ⟨hz, its, n, rv, kC b _ hDC q⟩
    · rw [upd_ne hb] at e
      refine (hok b o e).stay (fun c v hc q => kC c v (fun z => ?_) q) (fun c q => by rw [upd_ne (trD c _ q)]; exact q) fun c xs q => by rw [upd_ne (trD c _ q)]; exact q
      rcases hc with hc | hc
      · rw [hc] at z; rw [z, HC] at e; cases e
      · rw [z, HC] at hc; cases hc
  · obtain ⟨f0, f1, f3, f4, f5, f6⟩ := f2 b hb
    exact ⟨f4, f1, f5, f6⟩
theorem pe_comp {elt iter : Expr} {x : Str} {px pos : Pos} {ifs : List Expr} {scope : Scope} (fs : List (Str × Nat)) {wi : TI} {tt : TT} {te : TE}
    (hc : X.calm = true) (hkind : scope.kind = .function) (hcell : ∀ y ∈ scope.names, y.2 ≠ .cell) (hnames : ∀ y ∈ scope.names, y.2 = .local → scope.names.lookup y.1 = some .local)
    (hfree : ∀ y ∈ scope.names, y.2 = .free → X.env.kindOf y.1 = some .cell ∨ X.env.kindOf y.1 = some .free) (hx : scope.names.lookup x = some .local)
    (hnd : (x :: fs.map (·.1)).Nodup) (hfs : ∀ f ∈ fs, X.N[f.2]? = some f.1 ∧ (X.env.kindOf f.1 = some .cell ∨ X.env.kindOf f.1 = some .free) ∧ scope.names.lookup f.1 = some .free)
    (hi : PI X (.Name x px) iter wi)
    (hb : ∀ (cl : List (Str × Addr)) (C : Addr) (s₀ : Shared) (H₀ : Hp) (ex : List Addr), PTs (cxComp X scope cl C (x :: fs.map (·.1)) s₀ H₀ ex) ifs tt ∧ PE (cxComp X scope cl C (x :: fs.map (·.1)) s₀ H₀ ex) elt te)
    (hs : ∀ x, foldedSetIterable iter X.env x = pure x := by intro _; rfl) :
    PE X (.ListComp elt [⟨.Name x px, iter, ifs, 0⟩] scope pos) (tComp wi (fs.map (·.2)) tt te) := by
  intro pins s σ H Q I h
  obtain ⟨cl, hclos, hcl1, hcl2⟩ := closureFor_ex (env := X.env) (scope := scope) fun y hy hk => I.ok.has y.1 (hfree y hy hk)
  rw [eval_ListComp]
  refine wpAny_comprehension_free (use := none) rfl hs hclos hkind hnames (thn (hi pins s σ H _ I h) fun v s1 h1 => thn h1 fun itv s2 h2 => ?_)
  obtain ⟨it, fp, tn, J, H2, e, I2, T, st2, f2, W, w0, turn⟩ := h2
  subst e
  refine comp_block (pins := pins) hc hkind hcell hx hnd hfs hb hcl1 hcl2 I2 T st2 f2 W (fun H ys => ∀ p, H p = none → Q (.ref p) (upd H p (.lst ys))) w0 turn ?_
  intro D C H' s' ys its m hCs hD hC hDC HD HC hn pl rv hz q u hok hg ho
  exact ⟨m, hn, fun h' hs' => ⟨.ref D, _, comp_after (tk := s'.toks) I2 f2 hD hC hDC HD HC pl rv hz u hok hg ho hs', rfl, q D HD⟩⟩
def tCompSet (i : Nat) (wi : TI) (fs : List Nat) (tt : TT) (te : TE) : TS := fun D σ H => tComp wi fs tt te σ H fun v H1 => D.nx (σ.set i (some v)) H1
theorem ps_comp {i : Nat} {y : Str} {py spos : Pos} {elt iter : Expr} {x : Str} {px pos : Pos} {ifs : List Expr} {scope : Scope} (fs : List (Str × Nat)) {wi : TI} {tt : TT} {te : TE}
    (hN : X.N.Nodup) (hy : X.N[i]? = some y) (hyl : X.env.scope.names.lookup y = some .local)
    (hc : X.calm = true) (hkind : scope.kind = .function) (hcell : ∀ y ∈ scope.names, y.2 ≠ .cell) (hnames : ∀ y ∈ scope.names, y.2 = .local → scope.names.lookup y.1 = some .local)
    (hfree : ∀ y ∈ scope.names, y.2 = .free → X.env.kindOf y.1 = some .cell ∨ X.env.kindOf y.1 = some .free) (hx : scope.names.lookup x = some .local)
    (hnd : (x :: fs.map (·.1)).Nodup) (hfs : ∀ f ∈ fs, X.N[f.2]? = some f.1 ∧ (X.env.kindOf f.1 = some .cell ∨ X.env.kindOf f.1 = some .free) ∧ scope.names.lookup f.1 = some .free)
    (hi : PI X (.Name x px) iter wi)
    (hb : ∀ (cl : List (Str × Addr)) (C : Addr) (s₀ : Shared) (H₀ : Hp) (ex : List Addr), PTs (cxComp X scope cl C (x :: fs.map (·.1)) s₀ H₀ ex) ifs tt ∧ PE (cxComp X scope cl C (x :: fs.map (·.1)) s₀ H₀ ex) elt te)
    (hsw : swapsWith (.ListComp elt [⟨.Name x px, iter, ifs, 0⟩] scope pos) (some (.Name y py)) spos.line X.env = pure true)
    (hs : ∀ x, foldedSetIterable iter X.env x = pure x := by intro _; rfl) :
    PS X (.Assign [.Name y py] (.ListComp elt [⟨.Name x px, iter, ifs, 0⟩] scope pos) spos) (tCompSet i wi (fs.map (·.2)) tt te) := by
  intro pins s σ H D' I h
  obtain ⟨cl, hclos, hcl1, hcl2⟩ := closureFor_ex (env := X.env) (scope := scope) fun y hy hk => I.ok.has y.1 (hfree y hy hk)
  rw [exec_Assign_Name_used _ _ _ _ hsw]
  refine wpAny_bind (wpAny_standAt (wpAny_bind ?_))
  show wpAny _ X.A (do let _ ← comprehension (.ListComp elt [⟨.Name x px, iter, ifs, 0⟩] scope pos) scope X.env _ (newList []) false (eval iter X.env) (some (assign (.Name y py) X.env))) _ _ s
  refine wpAny_bind (wpAny_mono (wpAny_comprehension_free (use := some (assign (.Name y py) X.env)) (Q := fun _ s' => SP X pins D' .next s') rfl hs hclos hkind hnames
    (thn (hi pins s σ H _ I h) fun v s1 h1 => thn h1 fun itv s2 h2 => ?_)) (fun _ s' hq => wpAny_pure (wpAny_pure hq)) fun _ _ e => e)
  obtain ⟨it, fp, tn, J, H2, e, I2, T, st2, f2, W, w0, turn⟩ := h2
  subst e
  refine comp_block (pins := pins) hc hkind hcell hx hnd hfs hb hcl1 hcl2 I2 T st2 f2 W (fun H ys => ∀ p, H p = none → D'.nx (σ.set i (some (.ref p))) (upd H p (.lst ys))) w0 turn ?_
  intro D C H' s' ys its m hCs hD hC hDC HD HC hn pl rv hz q u hok hg ho
  show wpAny _ X.A (assign (.Name y py) X.env (.ref D)) _ _ _
  -- store, with the block's frame still there
  have J := comp_after (tk := s'.toks) I2 f2 hD hC hDC HD HC pl rv hz u hok hg ho (Heap.SameBut.refl C s'.heap)
  refine wpAny_assign_Name (store_ok2 J hN hy (.inl hyl) (v := .ref D) (u := .ref D) rfl (fun s3 J3 ⟨a, sb, ha⟩ => ?_) (.inr hyl))
  have exL : ∃ o, s2.heap.get? X.env.locals = some o := let ⟨_, ⟨o, _, _, e, _⟩, _⟩ := I2.loc; ⟨o, e⟩
  have cellC : ∀ z c, X.env.cells.lookup z = some c → c ≠ C := fun z c e q => by
    obtain ⟨v, oc, ho, _⟩ := I2.cell z c e
    rw [q, hC] at ho; cases ho
  have aC : a ≠ C := by
    rcases ha with z | z
    · obtain ⟨o, e⟩ := exL
      intro q
      rw [← z, q, hC] at e; cases e
    · exact cellC y a z
  have LC : C ≠ X.env.locals := fun q => by
    obtain ⟨o, e⟩ := exL
    rw [← q, hC] at e; cases e
  refine ⟨m, hn.sameBut sb (Ne.symm aC), fun h' hs' => ?_⟩
  exact ⟨_, _, J3.turned (t' := s3.toks) (it := C) (fun b o hb e => hs'.extBut b o hb e) (by rw [upd_ne (Ne.symm hDC)]; exact HC) LC (.inr (Nat.le_trans I2.sz hCs)) cellC (fun p hp z => by
    have := (I2.pin p hp).1
    rw [z, hC] at this; cases this), q D HD⟩
end
end L2
set_option Elab.async false
set_option linter.all false
set_option maxRecDepth 100000
namespace L2
open PySem PySem.Spec PyProof.Rows PySem.Builtin.Str
def txt (l : List Nat) : Str := ⟨l.toArray⟩
theorem codes_txt (l : List Nat) : (txt l).cps.toList = l := by simp [txt]
theorem txt_len (l : List Nat) : (txt l).length = l.length := by simp [txt, Str.length]
theorem txt_inj {a b : List Nat} : txt a = txt b ↔ a = b := ⟨fun h => by simpa [txt] using h, fun h => by rw [h]⟩
theorem txt_app (a b : List Nat) : txt a ++ txt b = txt (a ++ b) := by
  show Str.mk (a.toArray ++ b.toArray) = _
  simp [txt]
def cutL (xs : List Nat) (lo hi : Option Int) : List Nat := (xs.drop (HT.sIx xs.length 0 lo)).take (HT.sIx xs.length xs.length hi - HT.sIx xs.length 0 lo)
theorem cutL_length (xs : List Nat) (lo hi : Option Int) : (cutL xs lo hi).length ≤ xs.length := by
  unfold cutL; rw [List.length_take, List.length_drop]; omega
theorem clip_str (v : Option Int) (n d : Nat) : (match v with | none => ((d : Nat) : Int) | some i => (if (1 : Int) > 0 then max 0 (min (if i < 0 then i + (n : Int) else i) (n : Int)) else max (-1) (min (if i < 0 then i + (n : Int) else i) ((n : Int) - 1)))) = ((HT.sIx n d v : Nat) : Int) := by
  cases v with
  | none => rfl
  | some i =>
    show (if (1 : Int) > 0 then max 0 (min (if i < 0 then i + (n : Int) else i) (n : Int)) else _) = (((if i < 0 then (i + (n : Int)).toNat else min i.toNat n) : Nat) : Int)
    rw [if_pos (by decide)]
    by_cases h : i < 0
    · rw [if_pos h, if_pos h]; omega
    · rw [if_neg h, if_neg h]; omega
theorem sIx_le (n d : Nat) (v : Option Int) (h : d ≤ n) : HT.sIx n d v ≤ n := by
  cases v with
  | none => exact h
  | some i =>
    show (if i < 0 then (i + (n : Int)).toNat else min i.toNat n) ≤ n
    split <;> omega
theorem slice_txt (l : List Nat) (lo hi : Option Int) : Txt.slice (txt l) lo hi = txt (cutL l lo hi) := by
  have e : strSliceIndices lo hi 1 (txt l).length = (List.range (HT.sIx l.length l.length hi - HT.sIx l.length 0 lo)).map (HT.sIx l.length 0 lo + ·) := by
    rw [txt_len]
    unfold strSliceIndices
    simp only [if_pos (show (1 : Int) > 0 by decide)]
    have e1 := clip_str lo l.length 0
    have e2 := clip_str hi l.length l.length
    simp only [if_pos (show (1 : Int) > 0 by decide)] at e1 e2
    have e1' : ((0 : Nat) : Int) = 0 := rfl
    rw [e1'] at e1
    have key : ∀ a b a' b' : Int, a = a' → b = b' → sliceRange a b 1 = sliceRange a' b' 1 := fun a b a' b' h1 h2 => by rw [h1, h2]
    exact Eq.trans (key _ _ _ _ e1 e2) (sliceRange_one _ _)
  unfold Txt.slice
  rw [e]
  have e3 : (((List.range (HT.sIx l.length l.length hi - HT.sIx l.length 0 lo)).map (HT.sIx l.length 0 lo + ·)).filterMap ((txt l).cps[·]?)) = cutL l lo hi := by
    rw [pick_run, codes_txt]; rfl
  rw [e3]
  split
  · rename_i hc
    have hc' : HT.sIx l.length l.length hi - HT.sIx l.length 0 lo = l.length := by
      rw [txt_len] at hc
      simpa using hc
    have h1 := sIx_le l.length l.length hi (Nat.le_refl _)
    have h0 : HT.sIx l.length 0 lo = 0 ∨ l.length = 0 := by omega
    unfold cutL
    rw [hc']
    rcases h0 with h0 | h0
    · rw [h0]; simp
    · have : l = [] := List.length_eq_zero_iff.mp h0
      subst this; simp
  · rfl
section
variable {X : Cx}
def rSlS : V → Option Int → Option Int → Hp → VK → Prop := fun x lo hi H Q => ∃ l, x = .str (txt l) ∧ l.length ≤ sizeLine ∧ Q (.str (txt (cutL l lo hi))) H
theorem isSlice_of {h : Heap} {sl : Addr} {vl vu : Value} {lo hi : Option Int} (hs : h.IsSliceOf sl vl vu .none) (pl : IsPart vl lo) (pu : IsPart vu hi) :
    ∃ (l u : Option (Int × Tok)), h.IsSlice sl l u none ∧ l.map (·.1) = lo ∧ u.map (·.1) = hi := by
  obtain ⟨o, ho, hc, hd⟩ := hs
  cases pl with
  | none =>
    cases pu with
    | none => exact ⟨none, none, ⟨o, ho, hc, hd⟩, rfl, rfl⟩
    | int j u => exact ⟨none, some (j, u), ⟨o, ho, hc, hd⟩, rfl, rfl⟩
  | int i t =>
    cases pu with
    | none => exact ⟨some (i, t), none, ⟨o, ho, hc, hd⟩, rfl, rfl⟩
    | int j u => exact ⟨some (i, t), some (j, u), ⟨o, ho, hc, hd⟩, rfl, rfl⟩
theorem sl_str : SlR X rSlS := by
  intro pins s σ H x v vl vu lo hi sl Q I rx hs pl pu h
  obtain ⟨l, rfl, hz, q⟩ := h
  obtain ⟨t, rfl⟩ := rx
  obtain ⟨l', u', hS, rfl, rfl⟩ := isSlice_of hs pl pu
  refine ⟨"str", _, F.slot_str_getitem.lookup, typeIs_str _ _ _, wpAny_getItem_str_slice hS rfl ?_⟩
  have key : ∀ t' k, EP X pins σ Q (.str (Txt.slice (txt l) (l'.map (·.1)) (u'.map (·.1))) t') { s with toks := k } := fun t' k => ⟨.str (txt (cutL l _ _)), H, I.tok _, ⟨t', by rw [slice_txt]⟩, q⟩
  have e : sliceMade (txt l) t l' u' none = (if ((1 : Int) == 1 && (strSliceIndices (l'.map (·.1)) (u'.map (·.1)) 1 (txt l).length).length == (txt l).length) = true then Made.val (.str (txt l) t) else Made.str ⟨((strSliceIndices (l'.map (·.1)) (u'.map (·.1)) 1 (txt l).length).filterMap ((txt l).cps[·]?)).toArray⟩) := rfl
  rw [e]
  exact post_val_or_str ⟨Nat.le_trans (Txt.slice_le _ _ _) (by rw [txt_len]; exact hz), key⟩
def rstripL (p : Nat → Bool) (l : List Nat) : List Nat := (l.reverse.dropWhile p).reverse
theorem rstrip_eq (p : Nat → Bool) (l : List Nat) : Txt.stripBy p false true (txt l) = txt (rstripL p l) := by
  have hlen : (l.reverse.takeWhile p).length + (l.reverse.dropWhile p).length = l.length := by
    have := congrArg List.length (List.takeWhile_append_dropWhile (p := p) (l := l.reverse))
    rw [List.length_append, List.length_reverse] at this
    exact this
  have hpre : l.take (l.length - (l.reverse.takeWhile p).length) = rstripL p l := by
    have e : l = rstripL p l ++ (l.reverse.takeWhile p).reverse := by
      have := congrArg List.reverse (List.takeWhile_append_dropWhile (p := p) (l := l.reverse))
      rw [List.reverse_append, List.reverse_reverse] at this
      exact this.symm
    have hl : (rstripL p l).length = l.length - (l.reverse.takeWhile p).length := by unfold rstripL; rw [List.length_reverse]; omega
    have h := List.take_left (l₁ := rstripL p l) (l₂ := (l.reverse.takeWhile p).reverse)
    rw [← e, hl] at h
    exact h
  unfold Txt.stripBy stripSame stripped stripLo stripHi
  simp only [Bool.false_eq_true, if_false, if_true, codes_txt, List.drop_zero, txt_len]
  have e2 : strSub (txt l) 0 (l.length - (l.reverse.takeWhile p).length) = txt (rstripL p l) := by
    rw [← hpre]
    simp [strSub, txt, List.extract_eq_take_drop]
  split
  · rename_i hc
    have hc' : l.length - (l.reverse.takeWhile p).length = l.length := by simpa using hc
    rw [← hpre, hc', List.take_length]
  · exact e2
def rRstrip : V → List V → Hp → VK → Prop := fun x vs H Q => ∃ l m, x = .str (txt l) ∧ vs = [.str (txt m)] ∧ l.length ≤ sizeLine ∧ Q (.str (txt (rstripL (fun c => m.contains c) l))) H
theorem mt_rstrip : MtR X "str.rstrip" rRstrip := by
  intro pins s σ H x vs v us Q I rx rv h
  obtain ⟨l, m, rfl, rfl, hz, q⟩ := h
  obtain ⟨t, rfl⟩ := rx
  obtain ⟨u, rfl, t', rfl⟩ := rv.one
  refine call_gives F.slot_str_rstrip (typeIs_str _ _ _) F.entry_str_rstrip (F.args_str_rstrip_2 _ _) (gives_str_rstrip_chars _ _ t t') ?_
  refine post_val_or_made (fun _ => fits_stripped _ _ _ (by rw [txt_len]; exact hz)) fun t' k => ⟨.str (txt (rstripL (fun c => m.contains c) l)), H, I.tok _, ⟨t', ?_⟩, q⟩
  have e : (txt m).cps.contains = fun c => m.contains c := by funext c; simp [txt]
  show Value.str (Txt.stripBy (txt m).cps.contains false true (txt l)) t' = _
  rw [e, rstrip_eq]
theorem occ_one {l : List Nat} {c : Nat} (h : c ∈ l) : ∃ rest, occurrences (txt l) (txt [c]) 0 (txt l).length 1 = l.idxOf c :: rest := by
  have hf := PyProof.Rows.find_whole (txt l) (txt [c])
  have hlt := List.idxOf_lt_length_iff.mpr h
  have at_ : ∀ i, StrLaws.At (txt l) (txt [c]) (txt l).length i ↔ l[i]? = some c := fun i => by
    unfold StrLaws.At subAt
    rw [txt_len, txt_len]
    simp only [txt, List.extract_toArray, List.extract_eq_take_drop, List.length_cons, List.length_nil]
    rw [List.getElem?_eq_some_iff]
    constructor
    · rintro ⟨h1, h2⟩
      have h3 : i < l.length := by omega
      refine ⟨h3, ?_⟩
      have h4 : (l.drop i).take 1 = [c] := by simpa using h2
      rw [List.drop_eq_getElem_cons h3] at h4
      have h5 : [l[i]] = [c] := h4
      injection h5
    · rintro ⟨h1, h2⟩
      refine ⟨by omega, ?_⟩
      have h4 : (l.drop i).take (i + (0 + 1) - i) = [c] := by
        rw [List.drop_eq_getElem_cons h1, h2]
        have : i + (0 + 1) - i = 1 := by omega
        rw [this]; rfl
      rw [h4]; simp
  have hi : l[l.idxOf c]? = some c := by rw [List.getElem?_eq_getElem hlt]; congr 1; exact List.getElem_idxOf hlt
  rcases hf with ⟨_, hn⟩ | ⟨i, e, ha, hb⟩
  · exact absurd ((at_ _).mpr hi) (hn _)
  · have hi2 := (at_ i).mp ha
    have ei : i = l.idxOf c := by
      have h1 : ¬ l.idxOf c < i := fun z => hb _ z ((at_ _).mpr hi)
      have h2 : l.idxOf c ≤ i := by
        obtain ⟨h3, h4⟩ := List.getElem?_eq_some_iff.mp hi2
        have := List.idxOf_lt_length_iff.mpr h
        rcases Nat.lt_or_ge i (l.idxOf c) with z | z
        · exfalso
          have := List.not_of_lt_findIdx (p := (· == c)) (xs := l) (i := i) (by simpa [List.idxOf] using z)
          simp [h4] at this
        · exact z
      omega
    unfold Txt.find at e
    cases ho : occurrences (txt l) (txt [c]) 0 (txt l).length 1 with
    | nil => rw [ho] at e; simp only at e; omega
    | cons a r =>
      rw [ho] at e
      have ea : (a : Int) = (i : Int) := e
      have ea' : a = i := by omega
      exact ⟨r, by rw [ea', ei]⟩
def rIndex : V → List V → Hp → VK → Prop := fun x vs H Q => ∃ l c, x = .str (txt l) ∧ vs = [.str (txt [c])] ∧ c ∈ l ∧ Q (.int (l.idxOf c : Nat)) H
theorem mt_index : MtR X "str.index" rIndex := by
  intro pins s σ H x vs v us Q I rx rv h
  obtain ⟨l, c, rfl, rfl, hm, q⟩ := h
  obtain ⟨t, rfl⟩ := rx
  obtain ⟨u, rfl, t', rfl⟩ := rv.one
  obtain ⟨rest, ho⟩ := occ_one hm
  exact call_gives F.slot_str_index (typeIs_str _ _ _) F.entry_str_index (F.args_str_index_2 _ _) (gives_str_index _ _ t t' _ rest ho) ⟨.int _, H, I.tok _, ⟨_, rfl⟩, q⟩
theorem op_notin1 : OpR X (compareOp .NotIn) (fun x y H Q => ∃ c l, x = .str (txt [c]) ∧ y = .str (txt l) ∧ Q (.bl (!decide (c ∈ l))) H) := by
  intro pins s σ H x y v u Q I rx ry h
  obtain ⟨c, l, rfl, rfl, q⟩ := h
  obtain ⟨t, rfl⟩ := rx
  obtain ⟨t', rfl⟩ := ry
  refine notIn_str (fin_bl I q ?_)
  have := StrLaws.found_one (txt l) c
  rw [codes_txt] at this
  exact (congrArg not this).symm
theorem op_ltS : OpR X (compareOp .Lt) (fun x y H Q => ∃ i j, x = .str (txt i) ∧ y = .str (txt j) ∧ Q (.bl (decide (i < j))) H) := by
  intro pins s σ H x y v u Q I rx ry h
  obtain ⟨i, j, rfl, rfl, q⟩ := h
  obtain ⟨t, rfl⟩ := rx
  obtain ⟨t', rfl⟩ := ry
  exact lt_str (fin_bl I q (by rw [codes_txt, codes_txt]))
theorem op_geS : OpR X (compareOp .GtE) (fun x y H Q => ∃ i j, x = .str (txt i) ∧ y = .str (txt j) ∧ Q (.bl (!decide (i < j))) H) := by
  intro pins s σ H x y v u Q I rx ry h
  obtain ⟨i, j, rfl, rfl, q⟩ := h
  obtain ⟨t, rfl⟩ := rx
  obtain ⟨t', rfl⟩ := ry
  exact PySem.P.ge_str (fin_bl I q (by rw [codes_txt, codes_txt]))
theorem op_addS : OpR X (binaryOp .Add) (fun x y H Q => ∃ i j, x = .str (txt i) ∧ y = .str (txt j) ∧ i.length + j.length ≤ sizeLine ∧ Q (.str (txt (i ++ j))) H) := by
  intro pins s σ H x y v u Q I rx ry h
  obtain ⟨i, j, rfl, rfl, hz, q⟩ := h
  exact op_add_str pins s σ H _ _ v u Q I rx ry ⟨_, _, rfl, rfl, by rw [txt_len, txt_len]; exact hz, by rw [txt_app]; exact q⟩
theorem ix_strL : IxR X (fun x y H Q => ∃ (l : List Nat) (i : Nat) (c : Nat), x = .str (txt l) ∧ y = .int i ∧ l.length ≤ sizeLine ∧ l[i]? = some c ∧ Q (.str (txt [c])) H) := by
  intro pins s σ H value slice x y v u Q I rx ry h hs
  obtain ⟨l, i, c, rfl, rfl, hz, e, q⟩ := h
  exact ix_str pins s σ H value slice _ _ v u Q I rx ry ⟨_, _, c, rfl, rfl, by rw [txt_len]; exact hz, by rw [codes_txt]; exact atI_nat e, q⟩ hs
theorem call_lenS : CallR X (.builtin "len") (fun xs H Q => ∃ z, xs = [.str (txt z)] ∧ z.length ≤ sizeLine ∧ Q (.int z.length) H) := by
  intro pins s σ H xs us Q I r h
  obtain ⟨z, rfl, hz, q⟩ := h
  exact call_len_str pins s σ H _ us Q I r ⟨_, rfl, by rw [txt_len]; exact hz, by rw [txt_len]; exact q⟩
end
end L2
set_option Elab.async false
set_option linter.all false
set_option maxRecDepth 100000
namespace L2
open PySem PySem.Spec PyProof.Rows PySem.Builtin.Str
def joinL (sep : List Nat) : List (List Nat) → List Nat
  | [] => []
  | y :: r => r.foldl (fun acc p => acc ++ sep ++ p) y
theorem foldl_cps (sep : List Nat) : ∀ (r : List (List Nat)) (y : List Nat), ((r.map txt).foldl (fun acc p => acc ++ (txt sep).cps ++ p.cps) y.toArray) = (r.foldl (fun acc p => acc ++ sep ++ p) y).toArray
  | [], y => rfl
  | a :: r, y => by
    rw [List.map_cons, List.foldl_cons, List.foldl_cons, ← foldl_cps sep r (y ++ sep ++ a)]
    congr 1
    simp [txt]
theorem join_txt (sep : List Nat) (ys : List (List Nat)) : Txt.join (txt sep) (ys.map txt) = txt (joinL sep ys) := by
  cases ys with
  | nil => rfl
  | cons y r =>
    show (⟨_⟩ : Str) = _
    have := foldl_cps sep r y
    show (⟨(((y :: r).map txt).drop 1).foldl (fun acc p => acc ++ (txt sep).cps ++ p.cps) (((y :: r).map txt).headD Str.empty).cps⟩ : Str) = _
    simp only [List.map_cons, List.drop_one, List.tail_cons, List.headD_cons]
    have e : (txt y).cps = y.toArray := rfl
    rw [e, this]; rfl
theorem foldl_nilsep : ∀ (r : List (List Nat)) (y : List Nat), r.foldl (fun acc p => acc ++ [] ++ p) y = y ++ r.flatten
  | [], y => by simp
  | a :: r, y => by rw [List.foldl_cons, foldl_nilsep r]; simp
theorem joinL_nil (ys : List (List Nat)) : joinL [] ys = ys.flatten := by
  cases ys with
  | nil => rfl
  | cons y r => show r.foldl (fun acc p => acc ++ [] ++ p) y = _; rw [foldl_nilsep]; rfl
theorem strsAre_of : ∀ {ys : List Str} {us : List Value}, Vals (ys.map V.str) us → StrsAre us ys
  | [], _, .nil => .nil
  | y :: ys, _, .cons ⟨t, e⟩ r => by subst e; exact .cons y t (strsAre_of r)
def strV (l : List Nat) : V := .str (txt l)
theorem map_strV (ys : List (List Nat)) : ys.map strV = (ys.map txt).map V.str := by rw [List.map_map]; rfl
section
variable {X : Cx}
def rJoin (K : PySem.W.Frag) : V → List V → Hp → VK → Prop := fun x vs H Q => ∃ sep p ys, x = .str (txt sep) ∧ vs = [.ref p] ∧ SqL K H p (ys.map strV) ∧ (ys.map (·.length)).sum + ys.length * sep.length ≤ 16777216 ∧ Q (.str (txt (joinL sep ys))) H
theorem mt_join : MtR X "str.join" (rJoin X.K) := by
  intro pins s σ H x vs v us Q I rx rv h
  obtain ⟨sep, p, ys, rfl, rfl, hx, hz, q⟩ := h
  obtain ⟨t, rfl⟩ := rx
  obtain ⟨u, rfl, ru⟩ := rv.one
  cases ru
  obtain ⟨its, r, pl, hl⟩ := I.list hx
  rw [map_strV] at r
  refine join_list pl.isList (ys := ys.map txt) (by simpa using strsAre_of r) ?_ fun t' k => ⟨.str (txt (joinL sep ys)), H, I.tok _, ⟨t', by rw [join_txt]⟩, q⟩
  rw [List.map_map, List.length_map, txt_len]
  have : ((fun x => x.length) ∘ txt : List Nat → Nat) = fun l => l.length := by funext l; exact txt_len l
  rw [this]; exact hz
def Its (l : List Nat) : It := ⟨fun i _ => i < l.length, fun i H x H' => H' = H ∧ ∃ c, l[i]? = some c ∧ x = .str (txt [c]), fun i _ => l.length ≤ i⟩
theorem strTy (x : Str) : strIterType x = "str_ascii_iterator" ∨ strIterType x = "str_iterator" := by
  unfold strIterType
  split
  · exact .inl rfl
  · exact .inr rfl
theorem walks_str {prog : Program} {w : World} {A : Around} (hh : A.handled = none) (I : Addr) (x : Str) (t : Tok) : Walks prog w A I [I] [I] x.cps.size (SignAt x) (fun i h => h.IsStrIter I (strIterType x) x t i) := by
  rcases strTy x with e | e
  · rw [e]; exact Walks.strAscii hh I x t
  · rw [e]; exact Walks.strWide hh I x t
theorem turn_str {P : Program} {w : World} {K : PySem.W.Frag} {tg : Expr} (it : Addr) (l : List Nat) (t : Tok) : Turn P w K tg (Its l) [it] it (fun i h => h.IsStrIter it (strIterType (txt l)) (txt l) t i) where
  mem := by simp
  obj := fun i h st b hb => by
    have e : b = it := by simpa using hb
    subst e
    obtain ⟨o, e, c, d⟩ := st
    exact ⟨o, e, fun v z => by rw [d] at z; cases z⟩
  keep := fun i h h' st k => let ⟨o, ho, r⟩ := st; ⟨o, k it (by simp) o ho, r⟩
  item := by
    intro X hP hw hK hc i pins s σ H E I hf st hg
    subst hP hw hK
    obtain ⟨f0, f1, f2, f3, f4, f5⟩ := hf it (by simp)
    have W := walks_str (prog := X.prog) (w := X.w) (I.ok.hd hc) it (txt l) t
    have hg' : i < (txt l).cps.size := by have : i < l.length := hg; simpa [txt] using this
    refine W.item i s _ _ hg' st fun v h' tk hv st' kk => ?_
    obtain ⟨c, u, hc', rfl⟩ := hv
    have I1 : Inv X pins σ H { s with heap := h', toks := tk } := I.turned (fun b o hb e => kk b o (by simpa using hb) e) f0 f1 f3 f4 f5
    obtain ⟨o, e, cc, d⟩ := id st'
    have hn : ["enumerate", "zip", "dict_itemiterator", "dict_reverseitemiterator", "odict_iterator", "itertools.zip_longest", "itertools.pairwise"].contains (strIterType (txt l)) = false := by
      rcases strTy (txt l) with e | e <;> (rw [e]; decide)
    exact ⟨_, rfl, go_of (s := { s with heap := h', toks := tk }) e cc d hn ⟨.str (txt [c]), H, I1, ⟨u, rfl⟩, ⟨rfl, c, by simpa [txt] using hc', rfl⟩, st', fun b hb => (hf b hb).1⟩⟩
  done := by
    intro X hP hw hK hc i pins s σ H E I hf st hg
    subst hP hw hK
    obtain ⟨f0, f1, f2, f3, f4, f5⟩ := hf it (by simp)
    have hg' : l.length ≤ i := hg
    obtain ⟨o, e, cc, d⟩ := id st
    have fin : ∀ h', Heap.ExtBut it s.heap h' → (none : Option Value) = none ∧ Inv X pins σ H { s with heap := h' } := fun h' eb => ⟨rfl, I.turned (t' := s.toks) (fun b o hb e => eb b o hb e) f0 f1 f3 f4 f5⟩
    have hx : (txt l).cps[i]? = none := by simpa [txt] using hg'
    rcases strTy (txt l) with e | e
    · rw [e] at st
      exact wpAny_pyNext_ascii_end (I.ok.hd hc) st hx fin
    · rw [e] at st
      exact wpAny_pyNext_wide_end (I.ok.hd hc) st hx fin
  self := fun _ _ _ _ _ st h => by
    rcases strTy (txt l) with e | e
    · rw [e] at st; exact wpAny_pyIter_striter_ascii st h
    · rw [e] at st; exact wpAny_pyIter_striter_wide st h
def iStr (tl : TE) : TI := fun σ H R => tl σ H fun x H1 => ∃ l, x = .str (txt l) ∧ R (Its l) H1
theorem pi_str {tg l : Expr} {tl : TE} (hl : PE X l tl) : PI X tg l (iStr tl) := by
  intro pins s σ H R I h
  refine thn (hl pins s σ H _ I h) fun v s1 ⟨x, H1, I1, r1, q1⟩ => ?_
  obtain ⟨l', e, q⟩ := q1
  subst e
  obtain ⟨t, rfl⟩ := r1
  refine wpAny_pyIter_strU ?_
  refine ⟨s1.heap.objs.size, [s1.heap.objs.size], _, _, H1, rfl, I1.kept (t' := s1.toks) fun b o e => Heap.get?_push_of_some _ e, turn_str _ l' t, ⟨_, Heap.get?_push_size _ rfl, rfl, rfl⟩, fun b hb => ?_, q⟩
  have e : b = s1.heap.objs.size := by simpa using hb
  subst e
  exact I1.fpOk (Nat.le_refl _) (I1.hok.fresh (Nat.le_refl _))
end
end L2
set_option Elab.async false
set_option linter.all false
set_option maxRecDepth 100000
namespace L2
open PySem PySem.Spec PyProof.Rows PySem.Builtin.Str
section
variable {X : Cx}
structure CompOk (X : Cx) (scope : Scope) (x : Str) (fs : List (Str × Nat)) : Prop where
  kind : scope.kind = .function
  cell : ∀ y ∈ scope.names, y.2 ≠ .cell
  names : ∀ y ∈ scope.names, y.2 = .local → scope.names.lookup y.1 = some .local
  free : ∀ y ∈ scope.names, y.2 = .free → X.env.kindOf y.1 = some .cell ∨ X.env.kindOf y.1 = some .free
  hx : scope.names.lookup x = some .local
  nd : (x :: fs.map (·.1)).Nodup
  fs : ∀ f ∈ fs, X.N[f.2]? = some f.1 ∧ (X.env.kindOf f.1 = some .cell ∨ X.env.kindOf f.1 = some .free) ∧ scope.names.lookup f.1 = some .free
def compLook (names : List (Str × NameKind)) (outer : List (Str × NameKind)) (N : List Str) (x : Str) (fs : List (Str × Nat)) : Bool :=
  (names.all fun y => y.2 != .cell) && (names.all fun y => y.2 != .local || names.lookup y.1 == some .local) &&
  (names.all fun y => y.2 != .free || outer.lookup y.1 == some .cell || outer.lookup y.1 == some .free) && (names.lookup x == some .local) &&
  decide ((x :: fs.map (·.1)).Nodup) && (fs.all fun f => decide (N[f.2]? = some f.1) && (outer.lookup f.1 == some .cell || outer.lookup f.1 == some .free) && names.lookup f.1 == some .free)
theorem compOk_of {scope : Scope} {x : Str} {fs : List (Str × Nat)} (hk : scope.kind = .function) (h : compLook scope.names X.env.scope.names X.N x fs = true) : CompOk X scope x fs := by
  unfold compLook at h
  simp only [Bool.and_eq_true, List.all_eq_true, decide_eq_true_eq, Bool.or_eq_true, bne_iff_ne, beq_iff_eq] at h
  obtain ⟨⟨⟨⟨⟨h1, h2⟩, h3⟩, h4⟩, h5⟩, h6⟩ := h
  refine ⟨hk, fun y hy => h1 y hy, fun y hy e => ?_, fun y hy e => ?_, h4, h5, fun f hf => ?_⟩
  · rcases h2 y hy with z | z
    · exact absurd e z
    · exact z
  · rcases h3 y hy with (z | z) | z
    · exact absurd e z
    · exact .inl z
    · exact .inr z
  · obtain ⟨⟨a, b⟩, c⟩ := h6 f hf
    exact ⟨a, b, c⟩
theorem pe_compB {elt iter : Expr} {x : Str} {px pos : Pos} {ifs : List Expr} {scope : Scope} (fs : List (Str × Nat)) {wi : TI} {tt : TT} {te : TE} (hc : X.calm = true)
    (hi : PI X (.Name x px) iter wi)
    (hb : ∀ (cl : List (Str × Addr)) (C : Addr) (s₀ : Shared) (H₀ : Hp) (ex : List Addr), PTs (cxComp X scope cl C (x :: fs.map (·.1)) s₀ H₀ ex) ifs tt ∧ PE (cxComp X scope cl C (x :: fs.map (·.1)) s₀ H₀ ex) elt te)
    (hk : scope.kind = .function := by rfl) (hl : compLook scope.names X.env.scope.names X.N x fs = true := by kernel_rfl)
    (hs : ∀ x, foldedSetIterable iter X.env x = pure x := by intro _; rfl) :
    PE X (.ListComp elt [⟨.Name x px, iter, ifs, 0⟩] scope pos) (tComp wi (fs.map (·.2)) tt te) :=
  let O := compOk_of (X := X) hk hl
  pe_comp fs hc O.kind O.cell O.names O.free O.hx O.nd O.fs hi hb hs
theorem ps_compB {i : Nat} {y : Str} {py spos : Pos} {elt iter : Expr} {x : Str} {px pos : Pos} {ifs : List Expr} {scope : Scope} (fs : List (Str × Nat)) {wi : TI} {tt : TT} {te : TE}
    (hN : X.N.Nodup) (hy : X.N[i]? = some y) (hyl : X.env.scope.names.lookup y = some .local) (hc : X.calm = true)
    (hi : PI X (.Name x px) iter wi)
    (hb : ∀ (cl : List (Str × Addr)) (C : Addr) (s₀ : Shared) (H₀ : Hp) (ex : List Addr), PTs (cxComp X scope cl C (x :: fs.map (·.1)) s₀ H₀ ex) ifs tt ∧ PE (cxComp X scope cl C (x :: fs.map (·.1)) s₀ H₀ ex) elt te)
    (hk : scope.kind = .function := by rfl) (hl : compLook scope.names X.env.scope.names X.N x fs = true := by kernel_rfl)
    (hsw : swapsWith (.ListComp elt [⟨.Name x px, iter, ifs, 0⟩] scope pos) (some (.Name y py)) spos.line X.env = pure true := by rfl)
    (hs : ∀ x, foldedSetIterable iter X.env x = pure x := by intro _; rfl) :
    PS X (.Assign [.Name y py] (.ListComp elt [⟨.Name x px, iter, ifs, 0⟩] scope pos) spos) (tCompSet i wi (fs.map (·.2)) tt te) :=
  let O := compOk_of (X := X) hk hl
  ps_comp fs hN hy hyl hc O.kind O.cell O.names O.free O.hx O.nd O.fs hi hb hsw hs
theorem comp_range {lo : Int} {n : Nat} {σ : St} {fs : List Nat} {tt : TT} {te : TE} {H : Hp} {Q : VK} (Pv : Nat → List V → Hp → Prop) (h0 : Pv 0 [] H) (hl : ∀ i ys H, i ≤ n → Pv i ys H → ys.length ≤ i) (hn : n ≤ sizeLine)
    (hs : ∀ i ys H, i < n → Pv i ys H → ∀ R : List V → Hp → Prop, (∀ ys' H', Pv (i + 1) ys' H' → R ys' H') → tt (some (.int (lo + i)) :: compSt fs σ) H fun b H2 => if b = true then te (some (.int (lo + i)) :: compSt fs σ) H2 fun y H3 => R (ys ++ [y]) H3 else R ys H2)
    (hd : ∀ ys H, Pv n ys H → ∀ p, H p = none → Q (.ref p) (upd H p (.lst ys))) :
    ∃ W : Nat → Nat → List V → Hp → Prop, (∃ m, W 0 m [] H) ∧ ∀ i m ys H, W i m ys H → ys.length ≤ sizeLine ∧
      (((Itr lo n).stop i H ∧ ∀ p, H p = none → Q (.ref p) (upd H p (.lst ys))) ∨
       ((Itr lo n).go i H ∧ ys.length < sizeLine ∧ ∀ x H', (Itr lo n).yld i H x H' → tt (some x :: compSt fs σ) H' fun b H2 => if b = true then te (some x :: compSt fs σ) H2 fun y H3 => ∃ m', m' < m ∧ W (i + 1) m' (ys ++ [y]) H3 else ∃ m', m' < m ∧ W (i + 1) m' ys H2)) := by
  refine ⟨fun i m ys H => m = n - i ∧ i ≤ n ∧ Pv i ys H, ⟨n, by simp, Nat.zero_le _, h0⟩, ?_⟩
  rintro i m ys H ⟨rfl, hi, p⟩
  have hle := hl i ys H hi p
  refine ⟨by omega, ?_⟩
  by_cases hlt : i < n
  · refine .inr ⟨hlt, by omega, fun x H' y => ?_⟩
    obtain ⟨e, y⟩ := y
    subst e y
    exact hs i ys _ hlt p (fun ys' H' => ∃ m', m' < n - i ∧ m' = n - (i + 1) ∧ i + 1 ≤ n ∧ Pv (i + 1) ys' H') fun ys' H' q => ⟨n - (i + 1), by omega, rfl, hlt, q⟩
  · have e : i = n := by omega
    subst e
    exact .inl ⟨Nat.le_refl _, hd ys H p⟩
theorem comp_str {l : List Nat} {σ : St} {fs : List Nat} {tt : TT} {te : TE} {H : Hp} {Q : VK} (Pv : Nat → List V → Hp → Prop) (h0 : Pv 0 [] H) (hl : ∀ i ys H, i ≤ l.length → Pv i ys H → ys.length ≤ i) (hn : l.length ≤ sizeLine)
    (hs : ∀ i c ys H, l[i]? = some c → Pv i ys H → ∀ R : List V → Hp → Prop, (∀ ys' H', Pv (i + 1) ys' H' → R ys' H') → tt (some (.str (txt [c])) :: compSt fs σ) H fun b H2 => if b = true then te (some (.str (txt [c])) :: compSt fs σ) H2 fun y H3 => R (ys ++ [y]) H3 else R ys H2)
    (hd : ∀ ys H, Pv l.length ys H → ∀ p, H p = none → Q (.ref p) (upd H p (.lst ys))) :
    ∃ W : Nat → Nat → List V → Hp → Prop, (∃ m, W 0 m [] H) ∧ ∀ i m ys H, W i m ys H → ys.length ≤ sizeLine ∧
      (((Its l).stop i H ∧ ∀ p, H p = none → Q (.ref p) (upd H p (.lst ys))) ∨
       ((Its l).go i H ∧ ys.length < sizeLine ∧ ∀ x H', (Its l).yld i H x H' → tt (some x :: compSt fs σ) H' fun b H2 => if b = true then te (some x :: compSt fs σ) H2 fun y H3 => ∃ m', m' < m ∧ W (i + 1) m' (ys ++ [y]) H3 else ∃ m', m' < m ∧ W (i + 1) m' ys H2)) := by
  refine ⟨fun i m ys H => m = l.length - i ∧ i ≤ l.length ∧ Pv i ys H, ⟨l.length, by simp, Nat.zero_le _, h0⟩, ?_⟩
  rintro i m ys H ⟨rfl, hi, p⟩
  have hle := hl i ys H hi p
  refine ⟨by omega, ?_⟩
  by_cases hlt : i < l.length
  · refine .inr ⟨hlt, by omega, fun x H' y => ?_⟩
    obtain ⟨e, c, hc, y⟩ := y
    subst e y
    exact hs i c ys _ hc p (fun ys' H' => ∃ m', m' < l.length - i ∧ m' = l.length - (i + 1) ∧ i + 1 ≤ l.length ∧ Pv (i + 1) ys' H') fun ys' H' q => ⟨l.length - (i + 1), by omega, rfl, hlt, q⟩
  · have e : i = l.length := by omega
    subst e
    exact .inl ⟨Nat.le_refl _, hd ys H p⟩
theorem for_str {l : List Nat} {g : TG} {tb : TS} {D : Ends} {σ : St} {H : Hp} (Pv : Nat → St → Hp → Prop) (h0 : Pv 0 σ H)
    (hs : ∀ i c σ H, l[i]? = some c → Pv i σ H → g (.str (txt [c])) σ H fun σ2 H2 => tb { D with nx := Pv (i + 1), ct := Pv (i + 1), bk := D.nx } σ2 H2) (hd : ∀ σ H, Pv l.length σ H → D.nx σ H) :
    ∃ W : Nat → Nat → St → Hp → Prop, (∃ m, W 0 m σ H) ∧ ∀ i m σ H, W i m σ H →
      ((Its l).stop i H ∧ D.nx σ H) ∨ ((Its l).go i H ∧ ∃ N : St → Hp → Prop, (∀ σ' H', N σ' H' → ∃ m', m' < m ∧ W (i + 1) m' σ' H') ∧ ∀ x H', (Its l).yld i H x H' → g x σ H' fun σ2 H2 => tb { D with nx := N, ct := N, bk := D.nx } σ2 H2) := by
  refine ⟨fun i m σ H => m = l.length - i ∧ i ≤ l.length ∧ Pv i σ H, ⟨l.length, by simp, Nat.zero_le _, h0⟩, ?_⟩
  rintro i m σ H ⟨rfl, hi, p⟩
  by_cases hlt : i < l.length
  · refine .inr ⟨hlt, Pv (i + 1), fun σ' H' p' => ⟨l.length - (i + 1), by omega, rfl, hlt, p'⟩, fun x H' y => ?_⟩
    obtain ⟨e, c, hc, y⟩ := y
    subst e y
    exact hs i c σ _ hc p
  · have e : i = l.length := by omega
    subst e
    exact .inl ⟨Nat.le_refl _, hd σ H p⟩
theorem pe_txt {x : Str} {l : List Nat} {j pos} (h : x = txt l) : PE X (.Constant (.str x) j pos) (tC (.str (txt l))) := by subst h; exact pe_str
end
def ABC : List Nat := (List.range 26).map (97 + ·)
theorem small_eq : ("abcdefghijklmnopqrstuvwxyz" : Str) = txt ABC := by decide +kernel
theorem abc_len : ABC.length = 26 := by decide
theorem abc_at {i : Nat} (h : i < 26) : ABC[i]? = some (97 + i) := by
  unfold ABC
  rw [List.getElem?_map, List.getElem?_range h]; rfl
end L2
set_option Elab.async false
set_option linter.all false
set_option maxRecDepth 100000
namespace L2
open PySem PySem.Spec PyProof.Rows
abbrev rAddI : R2 := rI0 fun i j => .int (i + j)
abbrev rSubI : R2 := rI0 fun i j => .int (i - j)
abbrev rDivI : R2 := rI CDiv fun i j => .int (i / j)
abbrev rModI : R2 := rI (fun _ j => 0 < j) fun i j => .int (i % j)
abbrev rNegI : V → Hp → VK → Prop := rU fun i => .int (-i)
abbrev rLtI : R2 := rI0 fun i j => .bl (decide (i < j))
abbrev rLeI : R2 := rI0 fun i j => .bl (decide (i ≤ j))
abbrev rGtI : R2 := rI0 fun i j => .bl (decide (j < i))
abbrev rGeI : R2 := rI0 fun i j => .bl (decide (j ≤ i))
def CMulB (i j : Int) : Prop := CMul i j ∨ (Builtin.Int.intBits i ≤ 2 ^ 20 ∧ Builtin.Int.intBits j ≤ 2 ^ 20)
theorem CMulB.l {i j : Int} (h1 : -(2 ^ 64) < i) (h2 : i < 2 ^ 64) : CMulB i j := .inl (.inl ⟨h1, h2⟩)
theorem CMulB.r {i j : Int} (h1 : -(2 ^ 64) < j) (h2 : j < 2 ^ 64) : CMulB i j := .inl (.inr ⟨h1, h2⟩)
abbrev rMulI : R2 := rI CMulB fun i j => .int (i * j)
abbrev rAddS : R2 := fun x y H Q => ∃ i j, x = .str (txt i) ∧ y = .str (txt j) ∧ i.length + j.length ≤ sizeLine ∧ Q (.str (txt (i ++ j))) H
abbrev rIxStr : R2 := fun x y H Q => ∃ (l : List Nat) (i : Nat) (c : Nat), x = .str (txt l) ∧ y = .int i ∧ l.length ≤ sizeLine ∧ l[i]? = some c ∧ Q (.str (txt [c])) H
abbrev rNotIn1 : R2 := fun x y H Q => ∃ c l, x = .str (txt [c]) ∧ y = .str (txt l) ∧ Q (.bl (!decide (c ∈ l))) H
abbrev rLtS : R2 := fun x y H Q => ∃ i j, x = .str (txt i) ∧ y = .str (txt j) ∧ Q (.bl (decide (i < j))) H
abbrev rGeS : R2 := fun x y H Q => ∃ i j, x = .str (txt i) ∧ y = .str (txt j) ∧ Q (.bl (!decide (i < j))) H
abbrev rLenS : List V → Hp → VK → Prop := fun xs H Q => ∃ z, xs = [.str (txt z)] ∧ z.length ≤ sizeLine ∧ Q (.int z.length) H
abbrev rLenL (K : PySem.W.Frag) : List V → Hp → VK → Prop := fun xs H Q => ∃ p ys, xs = [.ref p] ∧ (SqL K H p ys ∨ SqT K H p ys) ∧ Q (.int ys.length) H
abbrev rMin2 : List V → Hp → VK → Prop := fun xs H Q => ∃ i j, xs = [.int i, .int j] ∧ Q (.int (if j < i then j else i)) H
abbrev rInt1 : List V → Hp → VK → Prop := fun xs H Q => (∃ i, xs = [.int i] ∧ Q (.int i) H) ∨ ∃ k, xs = [.bl k] ∧ Q (.int (if k then 1 else 0)) H
section
variable {X : Cx}
theorem op_mulB : OpR X (binaryOp .Mult) rMulI := opI fun _ _ _ _ _ _ _ hc q => mul_int q (by
  rcases hc with h | h
  · exact h.ok
  · exact IntMulOk.of_bits h.1 h.2)
theorem pe_gstr {x y : Str} {l : List Nat} {pos : Pos} (hg : Gl X x) (hm : ∃ t, X.mg x = some (.str y t)) (e : y = txt l) (hd : (x == ("__debug__" : Str)) = false := by decide) : PE X (.Name x pos) (tC (.str (txt l))) := by
  obtain ⟨t, hm⟩ := hm
  subst e
  exact pe_glob hg hm ⟨t, rfl⟩ hd
end
theorem SqL.up {K : PySem.W.Frag} {H : Hp} {a p : Addr} {xs : List V} {o : HO} (h : SqL K H a xs) (hp : H p = none) : SqL K (upd H p o) a xs := by
  rcases h with (h | ⟨q, h⟩) | h
  · exact .inl (.inl (by rw [upd_ne (ne_of_none h hp)]; exact h))
  · exact .inl (.inr ⟨q, by rw [upd_ne (ne_of_none h hp)]; exact h⟩)
  · exact .inr h
theorem SqL.here {K : PySem.W.Frag} {H : Hp} {p : Addr} {xs : List V} : SqL K (upd H p (.lst xs)) p xs := .inl (.inl upd_same)
theorem SqT.here {K : PySem.W.Frag} {H : Hp} {p : Addr} {xs : List V} : SqT K (upd H p (.tup xs)) p xs := .inl (.inl upd_same)
theorem Same.new {H H' : Hp} {p : Addr} {o : HO} (s : Same H H') (hp : H' p = none) : Same H (upd H' p o) := fun b q e => by
  have := s b q e
  rw [upd_ne (ne_of_none this hp)]; exact this
theorem Same.up (H : Hp) {p : Addr} {o : HO} (hp : H p = none) : Same H (upd H p o) := (Same.refl H).new hp
theorem atI_int {α : Type} {xs : List α} {i : Int} {v : α} (h0 : 0 ≤ i) (h : xs[i.toNat]? = some v) : atI xs i = some v := by
  obtain ⟨n, rfl⟩ := Int.eq_ofNat_of_zero_le h0
  exact atI_nat (by simpa using h)
end L2
set_option Elab.async false
set_option linter.all false
set_option maxRecDepth 100000
namespace L2
open PySem PySem.Spec PyProof.Rows
theorem for_r1 {ta : TA} {g : TG} {tb : TS} {D : Ends} {σ : St} {H : Hp} {j : Int} (ha : ∀ Q : List V → Hp → Prop, Q [.int j] H → ta σ H Q) (hlo : -(2 ^ 62) ≤ j) (hhi : j < 2 ^ 62)
    (Pv : Nat → St → Hp → Prop) (h0 : Pv 0 σ H) (hs : ∀ (i : Nat) σ H, (i : Int) < j → Pv i σ H → g (.int i) σ H fun σ2 H2 => tb { D with nx := Pv (i + 1), ct := Pv (i + 1), bk := D.nx } σ2 H2)
    (hd : ∀ σ H, Pv j.toNat σ H → D.nx σ H) : tFor (iRng1 ta) g tb D σ H := by
  refine ha _ ⟨j, rfl, hlo, hhi, ?_⟩
  refine for_range (lo := 0) (n := j.toNat) Pv h0 (fun i σ H hi p => ?_) hd
  rw [Int.zero_add]
  exact hs i σ H (by omega) p
theorem for_r2 {ta : TA} {g : TG} {tb : TS} {D : Ends} {σ : St} {H : Hp} {l j : Int} (ha : ∀ Q : List V → Hp → Prop, Q [.int l, .int j] H → ta σ H Q) (hl0 : -(2 ^ 62) ≤ l) (hl1 : l < 2 ^ 62) (hlo : -(2 ^ 62) ≤ j) (hhi : j < 2 ^ 62)
    (Pv : Nat → St → Hp → Prop) (h0 : Pv 0 σ H) (hs : ∀ (i : Nat) σ H, l + (i : Int) < j → Pv i σ H → g (.int (l + i)) σ H fun σ2 H2 => tb { D with nx := Pv (i + 1), ct := Pv (i + 1), bk := D.nx } σ2 H2)
    (hd : ∀ σ H, Pv (j - l).toNat σ H → D.nx σ H) : tFor (iRng2 ta) g tb D σ H := by
  refine ha _ ⟨l, j, rfl, ⟨hl0, hl1, hlo, hhi⟩, ?_⟩
  exact for_range (lo := l) (n := (j - l).toNat) Pv h0 (fun i σ H hi p => hs i σ H (by omega) p) hd
theorem for_s {tl : TE} {g : TG} {tb : TS} {D : Ends} {σ : St} {H : Hp} {l : List Nat} (ha : ∀ Q : VK, Q (.str (txt l)) H → tl σ H Q)
    (Pv : Nat → St → Hp → Prop) (h0 : Pv 0 σ H) (hs : ∀ i c σ H, l[i]? = some c → Pv i σ H → g (.str (txt [c])) σ H fun σ2 H2 => tb { D with nx := Pv (i + 1), ct := Pv (i + 1), bk := D.nx } σ2 H2)
    (hd : ∀ σ H, Pv l.length σ H → D.nx σ H) : tFor (iStr tl) g tb D σ H := ha _ ⟨l, rfl, for_str Pv h0 hs hd⟩
theorem comp_r2 {ta : TA} {fs : List Nat} {tt : TT} {te : TE} {σ : St} {H : Hp} {Q : VK} {l j : Int} (ha : ∀ Q : List V → Hp → Prop, Q [.int l, .int j] H → ta σ H Q) (hl0 : -(2 ^ 62) ≤ l) (hl1 : l < 2 ^ 62) (hlo : -(2 ^ 62) ≤ j) (hhi : j < 2 ^ 62) (hn : (j - l).toNat ≤ sizeLine)
    (Pv : Nat → List V → Hp → Prop) (h0 : Pv 0 [] H) (hl : ∀ i ys H, i ≤ (j - l).toNat → Pv i ys H → ys.length ≤ i)
    (hs : ∀ (i : Nat) ys H, l + (i : Int) < j → Pv i ys H → ∀ R : List V → Hp → Prop, (∀ ys' H', Pv (i + 1) ys' H' → R ys' H') → tt (some (.int (l + i)) :: compSt fs σ) H fun b H2 => if b = true then te (some (.int (l + i)) :: compSt fs σ) H2 fun y H3 => R (ys ++ [y]) H3 else R ys H2)
    (hd : ∀ ys H, Pv (j - l).toNat ys H → ∀ p, H p = none → Q (.ref p) (upd H p (.lst ys))) : tComp (iRng2 ta) fs tt te σ H Q := by
  refine ha _ ⟨l, j, rfl, ⟨hl0, hl1, hlo, hhi⟩, ?_⟩
  exact comp_range (lo := l) (n := (j - l).toNat) Pv h0 hl hn (fun i ys H hi p => hs i ys H (by omega) p) hd
theorem comp_r1 {ta : TA} {fs : List Nat} {tt : TT} {te : TE} {σ : St} {H : Hp} {Q : VK} {j : Int} (ha : ∀ Q : List V → Hp → Prop, Q [.int j] H → ta σ H Q) (hlo : -(2 ^ 62) ≤ j) (hhi : j < 2 ^ 62) (hn : j.toNat ≤ sizeLine)
    (Pv : Nat → List V → Hp → Prop) (h0 : Pv 0 [] H) (hl : ∀ i ys H, i ≤ j.toNat → Pv i ys H → ys.length ≤ i)
    (hs : ∀ (i : Nat) ys H, (i : Int) < j → Pv i ys H → ∀ R : List V → Hp → Prop, (∀ ys' H', Pv (i + 1) ys' H' → R ys' H') → tt (some (.int i) :: compSt fs σ) H fun b H2 => if b = true then te (some (.int i) :: compSt fs σ) H2 fun y H3 => R (ys ++ [y]) H3 else R ys H2)
    (hd : ∀ ys H, Pv j.toNat ys H → ∀ p, H p = none → Q (.ref p) (upd H p (.lst ys))) : tComp (iRng1 ta) fs tt te σ H Q := by
  refine ha _ ⟨j, rfl, hlo, hhi, ?_⟩
  refine comp_range (lo := 0) (n := j.toNat) Pv h0 hl hn (fun i ys H hi p => ?_) hd
  rw [Int.zero_add]
  exact hs i ys H (by omega) p
theorem comp_s {tl : TE} {fs : List Nat} {tt : TT} {te : TE} {σ : St} {H : Hp} {Q : VK} {l : List Nat} (ha : ∀ Q : VK, Q (.str (txt l)) H → tl σ H Q) (hn : l.length ≤ sizeLine)
    (Pv : Nat → List V → Hp → Prop) (h0 : Pv 0 [] H) (hl : ∀ i ys H, i ≤ l.length → Pv i ys H → ys.length ≤ i)
    (hs : ∀ i c ys H, l[i]? = some c → Pv i ys H → ∀ R : List V → Hp → Prop, (∀ ys' H', Pv (i + 1) ys' H' → R ys' H') → tt (some (.str (txt [c])) :: compSt fs σ) H fun b H2 => if b = true then te (some (.str (txt [c])) :: compSt fs σ) H2 fun y H3 => R (ys ++ [y]) H3 else R ys H2)
    (hd : ∀ ys H, Pv l.length ys H → ∀ p, H p = none → Q (.ref p) (upd H p (.lst ys))) : tComp (iStr tl) fs tt te σ H Q := ha _ ⟨l, rfl, comp_str Pv h0 hl hn hs hd⟩
end L2
set_option Elab.async false
set_option linter.all false
set_option maxRecDepth 100000
namespace L2
open PySem PySem.Spec PyProof.Rows
theorem lenL_go {K : PySem.W.Frag} {H : Hp} {a : Addr} {xs : List V} {Q : VK} (hS : SqL K H a xs) (q : Q (.int xs.length) H) : rLenL K [.ref a] H Q := ⟨a, xs, rfl, .inl hS, q⟩
theorem lenI_go {K : PySem.W.Frag} {H : Hp} {a : Addr} {ns : List Int} {Q : VK} (hS : SqL K H a (ns.map V.int)) (q : Q (.int ns.length) H) : rLenL K [.ref a] H Q := ⟨a, _, rfl, .inl hS, by rw [List.length_map]; exact q⟩
theorem lenS_go {H : Hp} {l : List Nat} {Q : VK} (hz : l.length ≤ 100000) (q : Q (.int l.length) H) : rLenS [.str (txt l)] H Q := ⟨l, rfl, Nat.le_trans hz (by decide), q⟩
theorem ixI_go {K : PySem.W.Frag} {H : Hp} {a : Addr} {ns : List Int} {i : Int} {Q : VK} (hS : SqL K H a (ns.map V.int)) (h0 : 0 ≤ i) (h1 : i < ns.length) (q : ∀ z, z ∈ ns → ns[i.toNat]? = some z → Q (.int z) H) : rIxL K (.ref a) (.int i) H Q := by
  obtain ⟨n, rfl⟩ := Int.eq_ofNat_of_zero_le h0
  have hn : n < ns.length := by omega
  have e : ns[n]? = some ns[n] := List.getElem?_eq_getElem hn
  exact ⟨a, _, (n : Int), .int ns[n], rfl, rfl, hS, atI_nat (by rw [List.getElem?_map, e]; rfl), q _ (List.getElem_mem hn) (by simpa using e)⟩
theorem ixL_go {K : PySem.W.Frag} {H : Hp} {a : Addr} {xs : List V} {i : Int} {v : V} {Q : VK} (hS : SqL K H a xs) (h0 : 0 ≤ i) (h : xs[i.toNat]? = some v) (q : Q v H) : rIxL K (.ref a) (.int i) H Q :=
  ⟨a, xs, i, v, rfl, rfl, hS, atI_int h0 h, q⟩
theorem ixT_go {K : PySem.W.Frag} {H : Hp} {a : Addr} {xs : List V} {i : Int} {v : V} {Q : VK} (hS : SqT K H a xs) (h0 : 0 ≤ i) (h : xs[i.toNat]? = some v) (q : Q v H) : rIxT K (.ref a) (.int i) H Q :=
  ⟨a, xs, i, v, rfl, rfl, hS, atI_int h0 h, q⟩
theorem ixS_go {H : Hp} {l : List Nat} {i : Int} {c : Nat} {Q : VK} (hz : l.length ≤ 100000) (h0 : 0 ≤ i) (h : l[i.toNat]? = some c) (q : Q (.str (txt [c])) H) : rIxStr (.str (txt l)) (.int i) H Q := by
  obtain ⟨n, rfl⟩ := Int.eq_ofNat_of_zero_le h0
  exact ⟨l, n, c, rfl, rfl, Nat.le_trans hz (by decide), by simpa using h, q⟩
theorem ixABC_go {H : Hp} {i : Int} {Q : VK} (h0 : 0 ≤ i) (h1 : i < 26) (q : Q (.str (txt [97 + i.toNat])) H) : rIxStr (.str (txt ABC)) (.int i) H Q :=
  ixS_go (by rw [abc_len]; decide) h0 (abc_at (by omega)) q
theorem addS_go {H : Hp} {l m : List Nat} {Q : VK} (hz : l.length + m.length ≤ 100000) (q : Q (.str (txt (l ++ m))) H) : rAddS (.str (txt l)) (.str (txt m)) H Q := ⟨l, m, rfl, rfl, Nat.le_trans hz (by decide), q⟩
theorem abc_idx {c : Nat} (h0 : 97 ≤ c) (h1 : c < 123) : c ∈ ABC ∧ ABC.idxOf c = c - 97 := by
  have h : ∀ d : Fin 26, (97 + d.val) ∈ ABC ∧ ABC.idxOf (97 + d.val) = d.val := by decide
  have e := h ⟨c - 97, by omega⟩
  have e2 : 97 + (c - 97) = c := by omega
  simp only [e2] at e
  exact e
theorem idxABC_go {H : Hp} {c : Nat} {Q : VK} (h0 : 97 ≤ c) (h1 : c < 123) (q : Q (.int (c - 97 : Nat)) H) : rIndex (.str (txt ABC)) [.str (txt [c])] H Q :=
  ⟨ABC, c, rfl, rfl, (abc_idx h0 h1).1, by rw [(abc_idx h0 h1).2]; exact q⟩
theorem mulB_l {i j : Int} (h1 : -18446744073709551616 < i) (h2 : i < 18446744073709551616) : CMulB i j := .l (by omega) (by omega)
theorem mulB_r {i j : Int} (h1 : -18446744073709551616 < j) (h2 : j < 18446744073709551616) : CMulB i j := .r (by omega) (by omega)
theorem cdiv {i j : Int} (h1 : 0 < j) (h2 : j < 1073741824) : CDiv i j := ⟨h1, h2⟩
theorem rstrip_go {H : Hp} {l m : List Nat} {Q : VK} (hz : l.length ≤ 100000) (q : Q (.str (txt (rstripL (fun c => m.contains c) l))) H) : rRstrip (.str (txt l)) [.str (txt m)] H Q := ⟨l, m, rfl, rfl, Nat.le_trans hz (by decide), q⟩
theorem slS_go {H : Hp} {l : List Nat} {lo hi : Option Int} {Q : VK} (hz : l.length ≤ 100000) (q : Q (.str (txt (cutL l lo hi))) H) : rSlS (.str (txt l)) lo hi H Q := ⟨l, rfl, Nat.le_trans hz (by decide), q⟩
theorem cutL_to {l : List Nat} {k : Int} (h0 : 0 ≤ k) (h1 : k ≤ l.length) : cutL l none (some k) = l.take k.toNat := by
  obtain ⟨n, rfl⟩ := Int.eq_ofNat_of_zero_le h0
  unfold cutL
  rw [HT.sIx_none, HT.sIx_nat, List.drop_zero, Nat.sub_zero]
  congr 1; simp; omega
theorem while_of {c : TT} {tb : TS} {D : Ends} {σ : St} {H : Hp} (Pv : Nat → St → Hp → Prop) (m0 : Nat) (h0 : Pv m0 σ H)
    (hs : ∀ m σ H, Pv m σ H → ∀ R : Bool → Hp → Prop, (∀ H1, tb { D with nx := fun σ' H' => ∃ m', m' < m ∧ Pv m' σ' H', ct := fun σ' H' => ∃ m', m' < m ∧ Pv m' σ' H', bk := D.nx } σ H1 → R true H1) → (∀ H1, D.nx σ H1 → R false H1) → c σ H R) : tWhile c tb D σ H := by
  refine ⟨Pv, ⟨m0, h0⟩, fun m σ H p => ?_⟩
  refine hs m σ H p _ (fun H1 h => ?_) (fun H1 h => ?_)
  · exact ⟨_, fun σ' H' h => h, h⟩
  · exact h
end L2
set_option Elab.async false
set_option linter.all false
set_option maxRecDepth 100000
namespace L2
open PySem PySem.Spec PyProof.Rows
structure QE (X : Cx) (e : Expr) (t : TE) : Prop where p : PE X e t
structure QT (X : Cx) (e : Expr) (t : TT) : Prop where p : PT X e t
structure QW (X : Cx) (e : Expr) (t : TT) : Prop where p : PW X e t
structure QA (X : Cx) (es : List Expr) (t : TA) : Prop where p : PA X es t
structure QS (X : Cx) (st : Stmt) (t : TS) : Prop where p : PS X st t
structure QSs (X : Cx) (st : List Stmt) (t : TS) : Prop where p : PSs X st t
structure QG (X : Cx) (tg : Expr) (t : TG) : Prop where p : PG X tg t
structure QGs (X : Cx) (ts : List Expr) (t : TGs) : Prop where p : PGs X ts t
structure QI (X : Cx) (tg iter : Expr) (t : TI) : Prop where p : PI X tg iter t
structure QO (X : Cx) (e : Option Expr) (t : TO) : Prop where p : PO X e t
structure QTs (X : Cx) (ifs : List Expr) (t : TT) : Prop where p : PTs X ifs t
section
variable {X : Cx} {e o a b iter tg : Expr} {es : List Expr} {te to ta tb : TE} {t u : TA} {x : Str} {p pos pos' : Pos}
theorem kv (i : Nat) (hN : X.N[i]? = some x := by kernel_rfl) (hv : X.env.scope.names.lookup x = some .local := by kernel_rfl) (hd : (x == ("__debug__" : Str)) = false := by kernel_rfl)
    (hcd : (x == ("__classdict__" : Str)) = false := by kernel_rfl) : QE X (.Name x pos) (tVar i) := ⟨pe_var hN (.inl hv) hd hcd⟩
theorem kvc (i : Nat) (hN : X.N[i]? = some x := by kernel_rfl) (hv : X.env.scope.names.lookup x = some .cell := by kernel_rfl) (hd : (x == ("__debug__" : Str)) = false := by kernel_rfl)
    (hcd : (x == ("__classdict__" : Str)) = false := by kernel_rfl) : QE X (.Name x pos) (tVar i) := ⟨pe_var hN (.inr (.inl hv)) hd hcd⟩
theorem ke_int {i : Int} {j : Nat} : QE X (.Constant (.int i) j pos) (tC (.int i)) := ⟨pe_int⟩
theorem ke_bl {c : Bool} {j : Nat} : QE X (.Constant (.bool c) j pos) (tC (.bl c)) := ⟨pe_bl⟩
theorem ke_non {j : Nat} : QE X (.Constant .none j pos) (tC .non) := ⟨pe_non⟩
theorem ke_txt {y : Str} {l : List Nat} {j : Nat} (h : y = txt l := by kernel_rfl) : QE X (.Constant (.str y) j pos) (tC (.str (txt l))) := ⟨pe_txt h⟩
theorem ka_nil : QA X [] tNil := ⟨pa_nil⟩
theorem ka_cons (ha : QE X e te) (hr : QA X es t) (hs : starEach (e :: es) X.env = (false, eval e X.env) :: starEach es X.env := by kernel_rfl) : QA X (e :: es) (tCons te t) := ⟨pa_cons ha.p hr.p hs⟩
theorem ke_gstr {y : Str} {l : List Nat} (hm : ∃ t, X.mg x = some (.str y t)) (e : y = txt l) (hg : X.env.kindOf x = some .globalImplicit := by kernel_rfl) (hd : (x == ("__debug__" : Str)) = false := by kernel_rfl) : QE X (.Name x pos) (tC (.str (txt l))) := ⟨pe_gstr hg hm e hd⟩
theorem ke_call {CX : CXT} {k : Nat} {f : Addr} {fd : FuncData} {ps : List Str} {sp : Sp} {E : XK} (F : FnOk X.prog X.w X.K X.mg X.base CX k f fd ps sp) (hr : Room k X.A) (hm : X.mg x = some (.ref f)) (hk : PySem.W.keepIn X.K (.ref f) = true) (hb : Binds X.K fd ps []) (hx : Passes CX X E)
    (ha : QA X (e :: es) t) (hg : X.env.kindOf x = some .globalImplicit := by kernel_rfl) (hdb : (x == ("__debug__" : Str)) = false := by kernel_rfl) (he : starEach (e :: es) X.env = (false, eval e X.env) :: starEach es X.env := by kernel_rfl) (hpl : (backTo pos (starEach es X.env)).any (·.1) = false := by kernel_rfl) :
    QE X (.Call (.Name x p) (e :: es) [] pos) (tCall sp [] E t) := ⟨pe_call F hr hg hm hk hb .nil hx ha.p hdb he hpl⟩
theorem ke_callB {id : String} {r : List V → Hp → VK → Prop} (hc : CallR X (.builtin id) r) (hm : X.mg x = none) (hv : bootBuiltins x = some (.builtin id)) (ha : QA X (e :: es) t)
    (hg : X.env.kindOf x = some .globalImplicit := by kernel_rfl) (hn : decide (x = "__name__") = false := by kernel_rfl) (hdb : (x == ("__debug__" : Str)) = false := by kernel_rfl)
    (he : starEach (e :: es) X.env = (false, eval e X.env) :: starEach es X.env := by kernel_rfl) (hpl : (backTo pos (starEach es X.env)).any (·.1) = false := by kernel_rfl) :
    QE X (.Call (.Name x p) (e :: es) [] pos) (tCB r t) := ⟨pe_callB hc hg hm hv ha.p (of_decide_eq_false hn) hdb he hpl⟩
theorem ke_callTy {T : String} {r : List V → Hp → VK → Prop} (hc : CallR X (.type T) r) (hm : X.mg x = none) (hv : bootBuiltins x = some (.type T)) (ha : QA X (e :: es) t)
    (hg : X.env.kindOf x = some .globalImplicit := by kernel_rfl) (hn : decide (x = "__name__") = false := by kernel_rfl) (hdb : (x == ("__debug__" : Str)) = false := by kernel_rfl)
    (he : starEach (e :: es) X.env = (false, eval e X.env) :: starEach es X.env := by kernel_rfl) (hpl : (backTo pos (starEach es X.env)).any (·.1) = false := by kernel_rfl) :
    QE X (.Call (.Name x p) (e :: es) [] pos) (tCB r t) := ⟨pe_callTy hc hg hm hv ha.p (of_decide_eq_false hn) hdb he hpl⟩
theorem ke_op {op : Operator} {r : R2} (ho : OpR X (binaryOp op) r) (ha : QE X a ta) (hb : QE X b tb) : QE X (.BinOp a op b pos) (tOp r ta tb) := ⟨pe_op ho ha.p hb.p⟩
theorem ke_un {op : UnaryOp} {r : V → Hp → VK → Prop} (ho : UnR X (unaryOp op) r) (ha : QE X a ta) : QE X (.UnaryOp op a pos) (tUn r ta) := ⟨pe_un ho ha.p⟩
theorem ke_one {op} {t : TE} (h : QE X a t) : QE X (.BoolOp op [a] pos) t := ⟨pe_one h.p⟩
theorem ke_and {rest : List Expr} (ha : QE X a ta) (hb : QE X (.BoolOp .And (b :: rest) pos) tb) : QE X (.BoolOp .And (a :: b :: rest) pos) (tAndV ta tb) := ⟨pe_and ha.p hb.p⟩
theorem ke_or {rest : List Expr} (ha : QE X a ta) (hb : QE X (.BoolOp .Or (b :: rest) pos) tb) : QE X (.BoolOp .Or (a :: b :: rest) pos) (tOrV ta tb) := ⟨pe_or ha.p hb.p⟩
theorem ke_ifExp {c : Expr} {tc : TT} (hc : QT X c tc) (ha : QE X a ta) (hb : QE X b tb) : QE X (.IfExp c a b pos) (tIf tc ta tb) := ⟨pe_ifExp hc.p ha.p hb.p⟩
theorem ke_lst (h : QA X es t) : QE X (.List es pos) (tLst t) := ⟨pe_lst h.p⟩
theorem ke_tup {x1} (h : QA X es t) : QE X (.Tuple es x1 pos) (tTup t) := ⟨pe_tup h.p⟩
theorem ko_none : QO X none tNoPart := ⟨po_none⟩
theorem ko_some (h : QE X e te) : QO X (some e) (tPart te) := ⟨po_some h.p⟩
theorem ke_slice {p2 : Pos} {lo hi : Option Expr} {tl th : TO} {r : V → Option Int → Option Int → Hp → VK → Prop} (hr : SlR X r) (he : QE X e te) (hl : QO X lo tl) (hu : QO X hi th) : QE X (.Subscript e (.Slice lo hi none p2) pos) (tSl r te tl th) := ⟨pe_slice hr he.p hl.p hu.p⟩
theorem ke_ix {r : R2} (hr : IxR X r) (ha : QE X a ta) (hb : QE X b tb) (hs : ∀ o i, subscripted b false o i = operate [o, i] (getItem o i) := by intro _ _; kernel_rfl) : QE X (.Subscript a b pos) (tOp r ta tb) := ⟨pe_ix hr ha.p hb.p hs⟩
variable {name : Str} {apos cpos : Pos} {T id : String} {r : V → List V → Hp → VK → Prop}
theorem ke_bm (pa : PlainAttrs T) (slot : Slot T name id) (hty : typeOf (.builtin id) = pure (.type "method_descriptor")) (hm : MtR X id r) (ho : QE X o to) (ha : QA X (e :: es) t)
    (hbase : attributeBase o name X.env (eval o X.env) = eval o X.env := by kernel_rfl)
    (hfew : ((backTo cpos (starEach (e :: es) X.env)).all (fun x => !x.1) && (backToKw cpos (keywordEach [] X.env)).all (fun x => x.1.isSome)
      && decide ((e :: es).length + ([] : List Keyword).length + (if ([] : List Keyword).isEmpty then 0 else 1) < 30)) = true := by kernel_rfl)
    (hline : (apos.endLine == cpos.line) = true := by kernel_rfl) (hs : starEach (e :: es) X.env = (false, eval e X.env) :: starEach es X.env := by kernel_rfl) (hplain : (backTo cpos (starEach es X.env)).any (·.1) = false := by kernel_rfl) :
    QE X (.Call (.Attribute o name apos) (e :: es) [] cpos) (tBM X.K T r to t) := ⟨pe_bm pa slot hty hm ho.p ha.p hbase hfew hline hs hplain⟩
theorem kt_val (h : QE X e te) (he : ∀ whole, isTrue e X.env whole = (do let v ← whole; standAt e.pos; holding [v] (truthy v)) := by intro _; kernel_rfl) : QT X e (tB te) := ⟨pt_val h.p he⟩
theorem kt_cmp {op : CmpOp} {r : R2} (ho : OpR X (compareOp op) r) (ha : QE X a ta) (hb : QE X b tb) (hm : behindInMarks op b = false := by kernel_rfl) : QT X (.Compare a [op] [b] pos) (tTest (tOp r ta tb)) := ⟨pt_cmpR ho ha.p hb.p hm⟩
theorem ke_cmp {op : CmpOp} {r : R2} (ho : OpR X (compareOp op) r) (ha : QE X a ta) (hb : QE X b tb) (hm : behindInMarks op b = false := by kernel_rfl) : QE X (.Compare a [op] [b] pos) (tOp r ta tb) := ⟨pe_cmpR ho ha.p hb.p hm⟩
theorem kt_isN {j : Nat} {pos'' : Pos} (ha : QE X e te) : QT X (.Compare e [.Is] [.Constant .none j pos''] pos) (tB (tIsN te)) := ⟨pt_cmp (pc_isN ha.p) (nobehind _ (by decide) (by decide))⟩
theorem kt_notN {j : Nat} {pos'' : Pos} (ha : QE X e te) : QT X (.Compare e [.IsNot] [.Constant .none j pos''] pos) (tB (tNotN te)) := ⟨pt_cmp (pc_notN ha.p) (nobehind _ (by decide) (by decide))⟩
theorem ke_isN {j : Nat} {pos'' : Pos} (ha : QE X e te) : QE X (.Compare e [.Is] [.Constant .none j pos''] pos) (tIsN te) := ⟨pe_cmp (pc_isN ha.p) (nobehind _ (by decide) (by decide))⟩
variable {tA tB' : TT} {rest : List Expr}
theorem kt_not (ha : QT X a tA) : QT X (.UnaryOp .Not a pos) (tNot tA) := ⟨pt_not ha.p⟩
theorem kw_and1 (ha : QT X a tA) : QW X (.BoolOp .And [a] pos) tA := ⟨pw_and1 ha.p⟩
theorem kw_or1 (ha : QT X a tA) : QW X (.BoolOp .Or [a] pos) tA := ⟨pw_or1 ha.p⟩
theorem kw_and (ha : QT X a tA) (hb : QW X (.BoolOp .And (b :: rest) pos) tB') : QW X (.BoolOp .And (a :: b :: rest) pos) (tAnd tA tB') := ⟨pw_and ha.p hb.p⟩
theorem kw_or (ha : QT X a tA) (hb : QW X (.BoolOp .Or (b :: rest) pos) tB') : QW X (.BoolOp .Or (a :: b :: rest) pos) (tOr tA tB') := ⟨pw_or ha.p hb.p⟩
theorem kt_w (h : QW X e tA) : QT X e tA := ⟨h.p.pt⟩
theorem kts_nil : QTs X [] tYes := ⟨pts_nil⟩
theorem kts_one {c : Expr} {t : TT} (h : QT X c t) : QTs X [c] t := ⟨pts_one h.p⟩
theorem ki_range1 {ta : TA} (hm : X.mg "range" = none) (ha : QA X [a] ta) (hg : X.env.kindOf "range" = some .globalImplicit := by kernel_rfl) (hs : starEach [a] X.env = [(false, eval a X.env)] := by kernel_rfl) : QI X tg (.Call (.Name "range" p) [a] [] pos) (iRng1 ta) := ⟨pi_range1 hg hm ha.p hs⟩
theorem ki_range2 {ta : TA} (hm : X.mg "range" = none) (ha : QA X [a, b] ta) (hg : X.env.kindOf "range" = some .globalImplicit := by kernel_rfl) (hs : starEach [a, b] X.env = [(false, eval a X.env), (false, eval b X.env)] := by kernel_rfl) (hs2 : starEach [b] X.env = [(false, eval b X.env)] := by kernel_rfl) : QI X tg (.Call (.Name "range" p) [a, b] [] pos) (iRng2 ta) := ⟨pi_range2 hg hm ha.p hs hs2⟩
theorem ki_list {tl : TE} (hl : QE X a tl) : QI X tg a (iList X.K tl) := ⟨pi_list hl.p⟩
theorem ki_str {tl : TE} (hl : QE X a tl) : QI X tg a (iStr tl) := ⟨pi_str hl.p⟩
theorem ke_comp {elt : Expr} {px : Pos} {ifs : List Expr} {scope : Scope} (fs : List (Str × Nat)) {wi : TI} {tt : TT} {te : TE}
    (hi : QI X (.Name x px) iter wi)
    (hb : ∀ (cl : List (Str × Addr)) (C : Addr) (s₀ : Shared) (H₀ : Hp) (ex : List Addr), QTs (cxComp X scope cl C (x :: fs.map (·.1)) s₀ H₀ ex) ifs tt ∧ QE (cxComp X scope cl C (x :: fs.map (·.1)) s₀ H₀ ex) elt te)
    (hc : X.calm = true := by kernel_rfl) (hk : scope.kind = .function := by kernel_rfl) (hl : compLook scope.names X.env.scope.names X.N x fs = true := by kernel_rfl)
    (hs : ∀ x, foldedSetIterable iter X.env x = pure x := by intro _; kernel_rfl) :
    QE X (.ListComp elt [⟨.Name x px, iter, ifs, 0⟩] scope pos) (tComp wi (fs.map (·.2)) tt te) := ⟨pe_compB fs hc hi.p (fun cl C s₀ H₀ ex => ⟨(hb cl C s₀ H₀ ex).1.p, (hb cl C s₀ H₀ ex).2.p⟩) hk hl hs⟩
theorem ks_comp {i : Nat} {y : Str} {py spos : Pos} {elt : Expr} {px : Pos} {ifs : List Expr} {scope : Scope} (fs : List (Str × Nat)) {wi : TI} {tt : TT} {te : TE}
    (hN : X.N.Nodup) (hi : QI X (.Name x px) iter wi)
    (hb : ∀ (cl : List (Str × Addr)) (C : Addr) (s₀ : Shared) (H₀ : Hp) (ex : List Addr), QTs (cxComp X scope cl C (x :: fs.map (·.1)) s₀ H₀ ex) ifs tt ∧ QE (cxComp X scope cl C (x :: fs.map (·.1)) s₀ H₀ ex) elt te)
    (hy : X.N[i]? = some y := by kernel_rfl) (hyl : X.env.scope.names.lookup y = some .local := by kernel_rfl) (hc : X.calm = true := by kernel_rfl)
    (hk : scope.kind = .function := by kernel_rfl) (hl : compLook scope.names X.env.scope.names X.N x fs = true := by kernel_rfl)
    (hsw : swapsWith (.ListComp elt [⟨.Name x px, iter, ifs, 0⟩] scope pos) (some (.Name y py)) spos.line X.env = pure true := by kernel_rfl)
    (hs : ∀ x, foldedSetIterable iter X.env x = pure x := by intro _; kernel_rfl) :
    QS X (.Assign [.Name y py] (.ListComp elt [⟨.Name x px, iter, ifs, 0⟩] scope pos) spos) (tCompSet i wi (fs.map (·.2)) tt te) := ⟨ps_compB fs hN hy hyl hc hi.p (fun cl C s₀ H₀ ex => ⟨(hb cl C s₀ H₀ ex).1.p, (hb cl C s₀ H₀ ex).2.p⟩) hk hl hsw hs⟩
variable {st : Stmt} {sts : List Stmt} {t1 t2 : TS}
theorem kss_nil : QSs X [] tNext := ⟨pss_nil⟩
theorem kss_cons (h1 : QS X st t1) (h2 : QSs X sts t2) : QSs X (st :: sts) (tSeq t1 t2) := ⟨pss_cons h1.p h2.p⟩
theorem kss_one (h1 : QS X st t1) : QSs X [st] t1 := ⟨pss_one h1.p⟩
theorem ks_set {i : Nat} (hN : X.N.Nodup) (he : QE X e te) (hi : X.N[i]? = some x := by kernel_rfl) (hx : X.env.scope.names.lookup x = some .local := by kernel_rfl) (hs : swapsWith e (some (.Name x pos')) pos.line X.env = pure false := by kernel_rfl) :
    QS X (.Assign [.Name x pos'] e pos) (tAsg te (gName i)) := ⟨ps_set hN hi (.inl hx) he.p hs (.inr hx)⟩
theorem ks_setc {i : Nat} (hN : X.N.Nodup) (he : QE X e te) (hi : X.N[i]? = some x := by kernel_rfl) (hx : X.env.scope.names.lookup x = some .cell := by kernel_rfl) (hs : swapsWith e (some (.Name x pos')) pos.line X.env = pure false := by kernel_rfl) (hf : X.fn x = true := by kernel_rfl) :
    QS X (.Assign [.Name x pos'] e pos) (tAsg te (gName i)) := ⟨ps_set hN hi (.inr hx) he.p hs (.inl hf)⟩
theorem ks_expr (he : QE X e te) (hs : swapsWith e none pos.line X.env = pure false := by kernel_rfl) : QS X (.Expr e pos) (tDrop te) := ⟨ps_expr he.p hs⟩
theorem ks_ret (he : QE X e te) : QS X (.Return (some e) pos) (tRet te) := ⟨ps_ret he.p⟩
theorem ks_if {c : Expr} {l1 l2 : List Stmt} {tc : TT} (hc : QT X c tc) (ha : QSs X l1 t1) (hb : QSs X l2 t2) : QS X (.If c l1 l2 pos) (tIfS tc t1 t2) := ⟨ps_if hc.p ha.p hb.p⟩
theorem ks_while {c : Expr} {body : List Stmt} {tc : TT} (hc : QT X c tc) (hb : QSs X body t1) (hp : PassesOwn (model X.prog X.w) X.A X.env X.xe := by exact PassesOwn.never) : QS X (.While c body [] pos) (tWhile tc t1) := ⟨ps_while hp hc.p hb.p⟩
theorem kg_name {i : Nat} (hN : X.N.Nodup) (hi : X.N[i]? = some x := by kernel_rfl) (hx : X.env.scope.names.lookup x = some .local := by kernel_rfl) : QG X (.Name x pos) (gName i) := ⟨pg_name hN hi (.inl hx) (.inr hx)⟩
theorem ks_for {body : List Stmt} {wi : TI} {g : TG} {tb : TS} (hi : QI X tg iter wi) (hg : QG X tg g) (hb : QSs X body tb) (hp : PassesOwn (model X.prog X.w) X.A X.env X.xe := by exact PassesOwn.never) (hc : X.calm = true := by kernel_rfl) (hs : ∀ x, foldedSetIterable iter X.env x = pure x := by intro _; kernel_rfl) : QS X (.For tg iter body [] pos) (tFor wi g tb) := ⟨ps_for hp hc hi.p hg.p hb.p hs⟩
theorem ks_asg {g : TG} (he : QE X e te) (hg : QG X tg g) (hs : swapsWithSole [tg] e pos.line X.env = pure false := by kernel_rfl) (hw : swappedStores [tg] e X.env = pure none := by kernel_rfl)
    (h1 : (assignEach [tg] X.env).map (·.2) = [assign tg X.env] := by kernel_rfl) : QS X (.Assign [tg] e pos) (tAsg te g) := ⟨ps_asg he.p hg.p hs hw h1⟩
theorem kgs_nil : QGs X [] gNil := ⟨pgs_nil⟩
theorem kgs_cons {t : TG} {u : TGs} (h1 : QG X e t) (h2 : QGs X es u) (hs : (assignEach (e :: es) X.env).map (·.2) = assign e X.env :: (assignEach es X.env).map (·.2) := by kernel_rfl) : QGs X (e :: es) (gCons t u) := ⟨pgs_cons h1.p h2.p hs⟩
theorem kg_tup {k : Nat} {t : TGs} {n : Nat} (h : QGs X es t) (hc : X.calm = true := by kernel_rfl) (hn : (assignEach es X.env).length = n := by kernel_rfl) (hst : (assignEach es X.env).findIdx? (·.1) = none := by kernel_rfl) : QG X (.Tuple es k pos) (gTup X.K n t) := ⟨pg_tup hc h.p hn hst⟩
theorem kg_sub {i : Expr} {ti : TE} {t : TSet} (ho : QE X o to) (hi : QE X i ti) (hs : PSet X t)
    (ha : ∀ v, assign (.Subscript o i pos) X.env v = (do
      let ov ← holding [v] (eval o X.env)
      let iv ← holding [v, ov] (eval i X.env)
      standAt pos
      holding [v, ov, iv] (setItem ov iv v)
      release [v, ov, iv] []) := by intro _; kernel_rfl) : QG X (.Subscript o i pos) (gSub to ti t) := ⟨pg_sub ho.p hi.p hs ha⟩
end
theorem Fun.okQ {P : Program} {w : World} {K : PySem.W.Frag} {mg : Str → Option Value} {base : Heap} {x qual : Str} {st : Stmt} {f : Addr} {fd : FuncData} {N ps : List Str} {k : Nat} {sp : Sp} (F : Fun K x qual st f fd) (S : FnScope N ps (defScope st)) {rd : TS} (len : ∀ vs H Q E, sp vs H Q E → vs.length = ps.length)
    (hb : ∀ (cdv : Value) (A : Around) (outer : List Env) (s : Shared) (H : Hp) (E : XK), Room k (A.deeper (envOfC qual (defScope st) s.heap.objs.size f cdv)) → QSs (cxOf CX0 P w K mg base N qual (defScope st) f cdv A outer s H E).nox (defBody st) rd)
    (hq : ∀ (vs : List V) (H : Hp) (Q : VK) (E : XK), sp vs H Q E → rd { nx := fun _ H' => Q .non H', rt := Q } (start N vs) H) : FnOk P w K mg base CX0 (k + 1) f fd ps sp :=
  F.ok S len fun cdv A outer s H vs Q E hr h => ⟨rd, (hb cdv A outer s H E hr).p, hq vs H Q E h⟩
end L2
set_option Elab.async false
set_option linter.all false
set_option maxRecDepth 100000
namespace L2
open PySem PySem.Spec PyProof.Rows
section
variable {X : Cx}
def isTy (t T : String) : Option Bool := if (Value.type t == Value.type T) = true then some true else if PySem.W.kitMeta T = true then (fastBuiltinMro t).map (·.contains (.type T)) else none
theorem isTy_kit {K : PySem.W.Frag} {t T : String} {b : Bool} (h : isTy t T = some b) : PySem.W.kitOne K (.type t) (.type T) = some b := h
theorem isTy_str_str : isTy "str" "str" = some true := by kernel_rfl
def rIsi (K : PySem.W.Frag) (T : String) : V → Hp → VK → Prop := fun x H Q => ∃ t b, TyOf K H x (.type t) ∧ isTy t T = some b ∧ Q (.bl b) H
def tIsi (K : PySem.W.Frag) (T : String) (ta : TE) : TE := fun σ H Q => ta σ H fun x H1 => rIsi K T x H1 Q
theorem ke_isi {e : Expr} {te : TE} {y z : Str} {T : String} {p p2 pos : Pos} (hm : X.mg y = none) (hv : bootBuiltins y = some (.builtin "isinstance")) (hm2 : X.mg z = none) (hv2 : bootBuiltins z = some (.type T)) (he : QE X e te)
    (hg : X.env.kindOf y = some .globalImplicit := by kernel_rfl) (hn : decide (y = "__name__") = false := by kernel_rfl) (hdb : (y == ("__debug__" : Str)) = false := by kernel_rfl)
    (hg2 : X.env.kindOf z = some .globalImplicit := by kernel_rfl) (hn2 : decide (z = "__name__") = false := by kernel_rfl) (hdb2 : (z == ("__debug__" : Str)) = false := by kernel_rfl)
    (hs1 : starEach [e, .Name z p2] X.env = (false, eval e X.env) :: starEach [.Name z p2] X.env := by kernel_rfl) (hs2 : starEach [.Name z p2] X.env = (false, eval (.Name z p2) X.env) :: starEach [] X.env := by kernel_rfl)
    (hpl : (backTo pos (starEach [.Name z p2] X.env)).any (·.1) = false := by kernel_rfl) :
    QE X (.Call (.Name y p) [e, .Name z p2] [] pos) (tIsi X.K T te) := by
  have hR : CallR X (.builtin "isinstance") (fun xs H Q => ∃ x, xs = [x, .ty T] ∧ rIsi X.K T x H Q) := by
    intro pins s σ H xs us Q I r h
    obtain ⟨x, rfl, t, b, ty, hk, q⟩ := h
    obtain ⟨u, w', rfl, ru, rw'⟩ := vals2 r
    obtain rfl : w' = Value.type T := rw'
    exact isinst_ok I ru ty (isTy_kit hk) fun tk => ⟨.bl b, H, I.tok tk, rfl, q⟩
  have hP := pe_callB (x := y) (p := p) (pos := pos) hR hg hm hv (pa_cons he.p (pa_cons (pe_bltn (v := .ty T) hg2 hm2 hv2 rfl (of_decide_eq_false hn2) hdb2) pa_nil hs2) hs1) (of_decide_eq_false hn) hdb hs1 hpl
  refine ⟨fun pins s σ H Q I h => hP pins s σ H Q I ?_⟩
  show te σ H fun x H1 => _
  exact (show (te σ H fun x H1 => rIsi X.K T x H1 Q) → te σ H (fun x H1 => ∃ x', [x, V.ty T] = [x', .ty T] ∧ rIsi X.K T x' H1 Q) from fun q => by
    have e : (fun x H1 => ∃ x', [x, V.ty T] = [x', .ty T] ∧ rIsi X.K T x' H1 Q) = fun x H1 => rIsi X.K T x H1 Q := by
      funext x H1
      refine propext ⟨fun ⟨x', e, q⟩ => ?_, fun q => ⟨x, rfl, q⟩⟩
      cases e; exact q
    rw [e]; exact q) h
theorem isiS_go {K : PySem.W.Frag} {H : Hp} {x : Str} {Q : VK} (q : Q (.bl true) H) : rIsi K "str" (.str x) H Q := ⟨_, _, .str x, isTy_str_str, q⟩
end
end L2
set_option Elab.async false
set_option linter.all false
set_option maxRecDepth 100000
namespace L2
open PySem PySem.Spec PyProof.Rows
structure UnB (fs : List Addr) (H H' : Hp) (h B h' : Heap) : Prop where
  keep : ∀ b o, h.get? b = some o → H b = none → b ∉ fs → B.get? b = some o
  slot : ∀ b o, h.get? b = some o → H b = none → b ∈ fs → ∃ sl, h'.get? b = some { o with slots := sl }
  free : ∀ b o, h.get? b = some o → H b = none → H' b = none
  there : ∀ b o, h.get? b = some o → b ∉ fs → ∃ o', B.get? b = some o'
  tups : ∀ b xs, H b = some (.tup xs) → H' b = some (.tup xs)
  frzs : ∀ b o u, H b = some (.frz o u) → H' b = some (.frz o u)
  tbls : ∀ b ps, H b = some (.tbl ps) → ∃ more, H' b = some (.tbl (ps ++ more))
def CX1 (P : Program) (w : World) : CXT := fun outer H s E e s' => ∃ (ea : Addr) (cls : Value) (t : Addr) (H' : Hp) (B : Heap), e = .ref ea ∧ s'.os = s.os ∧ AllBare s'.gens ∧
  Heap.FlyingW B outer ea cls (.ref t) s'.heap ∧ HOk P w H' B ∧ UnB (frs outer) H H' s.heap B s'.heap ∧ E cls none H'
theorem frs_none {base h : Heap} {l : List Env} (f : h.FunFrames base l) {b : Addr} (hb : b ∈ frs l) : base.get? b = none ∧ ∃ o, h.get? b = some o ∧ ∀ vs, o.data ≠ .fields vs := f.mem hb
section
variable {P : Program} {w : World} {K : PySem.W.Frag} {mg : Str → Option Value} {base : Heap} {N : List Str} {qual : Str} {scope : Scope} {f : Addr} {cd : Value} {A : Around} {outer : List Env} {s : Shared} {H : Hp} {E : XK}
theorem made_def {pins : List (Addr × Obj)} {σ : St} {H2 : Hp} {s2 : Shared} {h' : Heap} {e : Addr} {cls : Value} {vs : List Value} (I : Inv (cxOf (CX1 P w) P w K mg base N qual scope f cd A outer s H E) pins σ H2 s2)
    (hx : Heap.MadeExcOf s2.heap h' e cls vs) (q : E cls none H2) : (cxOf (CX1 P w) P w K mg base N qual scope f cd A outer s H E).xe (.ref e) { s2 with heap := h' } := by
  generalize eF : frs (cxOf (CX1 P w) P w K mg base N qual scope f cd A outer s H E).stack = F
  have hin : ∀ env ∈ (cxOf (CX1 P w) P w K mg base N qual scope f cd A outer s H E).stack, ∀ b, env.frame = some b → b ∈ F := fun env he b hb => by rw [← eF]; exact List.mem_filterMap.mpr ⟨env, he, hb⟩
  have neL : ∀ b o, s.heap.get? b = some o → b ≠ s.heap.objs.size := fun b o e => Nat.ne_of_lt (Heap.lt_size e)
  have nF : ∀ b o, s.heap.get? b = some o → b ∉ frs outer → b ∉ F := fun b o e hb z => by
    rw [← eF] at z
    rcases List.mem_cons.mp (I.stkSub b z) with y | y
    · exact neL b o e y
    · exact hb y
  have gB : ∀ b o, s2.heap.get? b = some o → b ∉ F → (PySem.W.hideAll s2.heap F).get? b = some o := fun b o e hb => PySem.W.hideAll_get _ e hb
  show wpAny _ _ (leaving _ (.ref e)) _ _ _
  refine wpAny_leaves_madeW (base := PySem.W.hideAll s2.heap F) (h := s2.heap) I.ok.frames rfl (fun b o q => PySem.W.of_hideAll _ q) (PySem.W.funFrames_hide I.stack hin) hx fun h2 t hfl htup hn hsm => ?_
  refine ⟨e, cls, t, H2, PySem.W.hideAll s2.heap F, rfl, I.os, I.bare, hfl, fun a o ea => (I.hok a o ea).stay (fun b u hb eu => gB b u eu fun z => ?_) (fun c q => q) (fun c xs q => q), ⟨fun b o eb n hb => ?_, fun b o eb n hb => ?_, fun b o eb n => ?_, fun b o eb hb => ?_, I.base.tups, I.base.frzs, I.base.tbls⟩, q⟩
  · have hf := I.stkFree b (by rw [eF]; exact z)
    rcases hb with rfl | hb
    · rw [hf] at ea; cases ea
    · rw [hf] at hb; cases hb
  · exact gB b o (I.base.keep b o eb n hb (List.not_mem_nil)) (nF b o eb hb)
  · obtain ⟨sl, e1⟩ := I.base.slot b o eb n hb (List.not_mem_nil)
    obtain ⟨_, o2, e2, d2⟩ := frs_none I.stack (List.mem_cons_of_mem _ hb : b ∈ s.heap.objs.size :: frs outer)
    rw [e1] at e2
    cases e2
    obtain ⟨sl', e3⟩ := hsm b _ (hx.keeps _ _ e1) d2
    exact ⟨sl', e3⟩
  · exact I.base.free b o eb n (List.not_mem_nil)
  · obtain ⟨o', e1⟩ := I.base.there b o eb (List.not_mem_nil)
    exact ⟨o', gB b o' e1 (nF b o eb hb)⟩
theorem pass_def : Passes (CX1 P w) (cxOf (CX1 P w) P w K mg base N qual scope f cd A outer s H E) E := by
  rintro pins σ H1 s1 e s2 I ⟨ea, cls, t, H2, B, rfl, hos, hg, hfl, hok, ub, q⟩
  have neL : ∀ b o, s.heap.get? b = some o → b ≠ s.heap.objs.size := fun b o e => Nat.ne_of_lt (Heap.lt_size e)
  have nF : ∀ b o, s.heap.get? b = some o → b ∉ frs outer → b ∉ frs (cxOf (CX1 P w) P w K mg base N qual scope f cd A outer s H E).stack := fun b o e hb z => by
    rcases List.mem_cons.mp (I.stkSub b z) with y | y
    · exact neL b o e y
    · exact hb y
  have yF : ∀ b, b ∈ frs outer → b ∈ frs (cxOf (CX1 P w) P w K mg base N qual scope f cd A outer s H E).stack := fun b hb => (List.mem_cons_of_mem _ hb : b ∈ s.heap.objs.size :: frs outer)
  show wpAny _ _ (leaving _ (.ref ea)) _ _ _
  refine wpAny_leaves_onW I.ok.frames rfl hfl fun h3 hfl3 hsm => ?_
  refine ⟨ea, cls, t, H2, B, rfl, hos.trans I.os, hg, hfl3, hok, ⟨fun b o eb n hb => ?_, fun b o eb n hb => ?_, fun b o eb n => ?_, fun b o eb hb => ?_, fun b xs e => ub.tups b xs (I.base.tups b xs e), fun b o u e => ub.frzs b o u (I.base.frzs b o u e), fun b ps e => ?_⟩, q⟩
  · exact ub.keep b o (I.base.keep b o eb n hb (List.not_mem_nil)) (I.base.free b o eb n (List.not_mem_nil)) (nF b o eb hb)
  · obtain ⟨sl, e1⟩ := I.base.slot b o eb n hb (List.not_mem_nil)
    obtain ⟨sl', e2⟩ := ub.slot b _ e1 (I.base.free b o eb n (List.not_mem_nil)) (yF b hb)
    obtain ⟨_, o2, e3, d3⟩ := frs_none hfl.2.2.1 (yF b hb)
    rw [e2] at e3
    cases e3
    obtain ⟨sl2, e4⟩ := hsm b _ e2 d3
    exact ⟨sl2, e4⟩
  · obtain ⟨o', e1⟩ := I.base.there b o eb (List.not_mem_nil)
    exact ub.free b o' e1 (I.base.free b o eb n (List.not_mem_nil))
  · obtain ⟨o', e1⟩ := I.base.there b o eb (List.not_mem_nil)
    exact ub.there b o' e1 (nF b o eb hb)
  · obtain ⟨m1, e1⟩ := I.base.tbls b ps e
    obtain ⟨m2, e2⟩ := ub.tbls b _ e1
    exact ⟨m1 ++ m2, by rw [e2, Array.append_assoc]⟩
end
theorem exc_obj {K : PySem.W.Frag} {h : Heap} {C : Addr} {bmB : List Value} {newId : String} (X : K.In h) (q : PySem.W.excIn K C bmB newId = true) :
    ∃ bm N nm qn bs hdct sn sub ab col dd k0 k1 k2 k3 k5 mN, h.get? C = some (excClassObj nm qn C N bs bm hdct sn sub ab col dd k0 k1 k2 k3 k5 newId) ∧ h.Ns N mN ∧ mN "__init__" = none ∧ OwnTail h bmB bm := by
  unfold PySem.W.excIn at q
  split at q
  next dd cd sl look =>
    split at q
    next C1 tl a0 a1 a2 a3 nid a5 e1 e2 =>
      simp only [Bool.and_eq_true, beq_iff_eq, Bool.not_eq_true'] at q
      obtain ⟨⟨⟨⟨⟨q1, q2⟩, q3⟩, q4⟩, q5⟩, q6⟩ := q
      subst q1 q2
      cases cd
      dsimp only at e1 q3 q5 q6
      subst e1 q3
      have e3 : sl = #[a0, a1, a2, a3, some (.builtin nid), a5] := by
        cases sl
        dsimp only at e2
        rw [e2]
      subst e3
      exact ⟨tl, _, _, _, _, _, _, _, _, _, _, _, _, _, _, _, _, X _ _ look, .of_isNs (PySem.W.isNs_of_in X q5), PySem.W.nsMap_none_of_in X q5 q6, PySem.W.tail_of_in X q4⟩
    next => cases q
  next => cases q
def tRaise (cls : Value) (E : XK) (ta : TA) : TS := fun _ σ H => ta σ H fun vs H1 => vs.length ≤ 8 ∧ E cls none H1
section
variable {X : Cx}
theorem ps_raise {x : Str} {e : Expr} {es : List Expr} {ta : TA} {C : Addr} {B newId initId : String} {bmB : List Value} {E : XK} {np cpos pos : Pos} (FB : ExcBaseFacts B newId initId bmB) (hC : PySem.W.excIn X.K C bmB newId = true)
    (hg : Gl X x) (hm : X.mg x = some (.ref C)) (hc : X.calm = true) (ha : PA X (e :: es) ta)
    (hx : ∀ (pins : List (Addr × Obj)) (σ : St) (H2 : Hp) (s2 : Shared) (h' : Heap) (ea : Addr) (vs : List Value), Inv X pins σ H2 s2 → Heap.MadeExcOf s2.heap h' ea (.ref C) vs → E (.ref C) none H2 → X.xe (.ref ea) { s2 with heap := h' })
    (hdb : (x == ("__debug__" : Str)) = false) (he : starEach (e :: es) X.env = (false, eval e X.env) :: starEach es X.env) (hpl : (backTo cpos (starEach es X.env)).any (·.1) = false) :
    PS X (.Raise (some (.Call (.Name x np) (e :: es) [] cpos)) none pos) (tRaise (.ref C) E ta) := by
  intro pins s σ H D I h
  obtain ⟨bm, N, nm, qn, bs, hdct, sn, sub, ab, col, dd, k0, k1, k2, k3, k5, mN, hO, hN, hni, TL⟩ := exc_obj I.mod.kin hC
  refine wpAny_Raise_call_subT (C := C) (nm := nm) (q := qn) (N := N) (bs := bs) (bm := bm) (hdct := hdct) (sn := sn) (sub := sub) (ab := ab) (col := col) (dd := dd) (k0 := k0) (k1 := k1) (k2 := k2) (k3 := k3) (k5 := k5)
    FB (mN := mN) (TL.hasType FB.hasBase) (I.ok.hd hc) (by rw [he]; show (false || (backTo cpos (starEach es X.env)).any (·.1)) = false; rw [hpl]; rfl) hni (ld_glob I hg hm ⟨rfl, ?_⟩ hdb)
  have hA := ha cpos pins s σ H _ I h
  rw [he] at hA ⊢
  refine Calls.evalArgs_plain (thn hA fun us s2 ⟨vs, H2, I2, r2, hz, q2⟩ => ⟨rfl, ?_, I2.bk _ _ hO, hN.keeps I2.bk, TL.keeps I2.bk, fun h' ea hmade => hx pins σ H2 s2 h' ea us I2 hmade q2⟩)
  show us.length ≤ sizeLine
  rw [← r2.length]
  exact Nat.le_trans hz (by decide)
end
end L2
set_option Elab.async false
set_option linter.all false
set_option maxRecDepth 100000
namespace L2
open PySem PySem.Spec PyProof.Rows
theorem exc_mro {K : PySem.W.Frag} {h : Heap} {C : Addr} {bmB : List Value} {newId : String} (X : K.In h) (q : PySem.W.excIn K C bmB newId = true) :
    ∃ bm N nm qn bs hdct sn sub ab col dd k0 k1 k2 k3 k5, h.get? C = some (excClassObj nm qn C N bs bm hdct sn sub ab col dd k0 k1 k2 k3 k5 newId) ∧ OwnTail h bmB bm ∧ ∀ v r, PySem.W.mroIn K C v = some r → (Value.ref C :: bm).contains v = r := by
  obtain ⟨bm, N, nm, qn, bs, hdct, sn, sub, ab, col, dd, k0, k1, k2, k3, k5, mN, hO, hN, hni, TL⟩ := exc_obj X q
  refine ⟨bm, N, nm, qn, bs, hdct, sn, sub, ab, col, dd, k0, k1, k2, k3, k5, hO, TL, fun v r e => ?_⟩
  unfold PySem.W.mroIn PySem.W.clsIn at e
  split at e
  next c d cd sl look =>
    have e2 := X _ _ look
    rw [hO] at e2
    cases e2
    simpa using e
  next => cases e
theorem matches_own {M : Model} {A : Around} {E : Value → Shared → Prop} {h : Heap} {g : Array GenState} {d : Drawn} {t : Nat} {os : OsState} {e C D : Addr} {oe : Obj} {Q : Bool → Shared → Prop}
    {nm q nm' q' : Str} {N N' : Addr} {bs bm bs' bm' : List Value} {hdct hdct' : Bool} {sn sn' : List Str} {sub sub' : List Value} {ab ab' : Bool} {col col' : Option Bool} {dd dd' : Option Addr} {k0 k1 k2 k3 k5 l0 l1 l2 l3 l5 : Option Value} {newId newId' : String}
    (hC : h.get? C = some (excClassObj nm q C N bs bm hdct sn sub ab col dd k0 k1 k2 k3 k5 newId)) (hD : h.get? D = some (excClassObj nm' q' D N' bs' bm' hdct' sn' sub' ab' col' dd' l0 l1 l2 l3 l5 newId')) (he : h.get? e = some oe) (hcls : oe.cls = .ref C)
    (hbase : bm'.contains (.type "BaseException") = true) (hs : (Value.ref C :: bm).contains (.ref D) = true) (hq : Q true ⟨h, g, d, t, os⟩) : wpAny M A (excMatches (.ref e) (.ref D)) Q E ⟨h, g, d, t, os⟩ := by
  have hcB : (Value.ref D :: bm').contains (.type "BaseException") = true := by rw [List.contains_cons, hbase, Bool.or_true]
  have nt := tc_notTuple
  unfold excMatches
  repeat (first | (with_reducible refine wpAny_loadPart_at he ?_; rw [hcls]) | with_reducible refine wpAny_loadPart_at hD ?_ | (with_reducible refine wpAny_isSubtype_exc hD ?_; rw [hcB]) | (with_reducible refine wpAny_isSubtype_exc hC ?_; rw [hs]) | wp_step)
  exact hq
structure ExcSub (K : PySem.W.Frag) (C D : Addr) : Prop where
  c : ∃ bmB newId, PySem.W.excIn K C bmB newId = true
  d : ∃ bmB newId, PySem.W.excIn K D bmB newId = true ∧ bmB.contains (.type "BaseException") = true
  s : PySem.W.mroIn K C (.ref D) = some true
def PassesX (X : Cx) (Φ : St → XK → Prop) : Prop := ∀ (pins : List (Addr × Obj)) (σ : St) (H : Hp) (s : Shared) (E : XK) (e : Value) (s' : Shared), Inv X pins σ H s → Φ σ E → CX1 X.prog X.w X.stack H s E e s' → X.xe e s'
def tCallX (sp : Sp) (Φ : St → XK → Prop) (t : TA) : TE := fun σ H Q => t σ H fun vs H1 => ∃ E, Φ σ E ∧ sp vs H1 Q E
section
variable {X : Cx} {e : Expr} {es : List Expr} {t : TA} {x : Str} {p pos : Pos}
theorem pe_callX {Φ : St → XK → Prop} {k : Nat} {f : Addr} {fd : FuncData} {ps : List Str} {sp : Sp} (F : FnOk X.prog X.w X.K X.mg X.base (CX1 X.prog X.w) k f fd ps sp) (hr : Room k X.A) (hg : Gl X x) (hm : X.mg x = some (.ref f)) (hk : PySem.W.keepIn X.K (.ref f) = true) (hb : Binds X.K fd ps []) (hx : PassesX X Φ)
    (ha : PA X (e :: es) t) (hdb : (x == ("__debug__" : Str)) = false) (he : starEach (e :: es) X.env = (false, eval e X.env) :: starEach es X.env) (hpl : (backTo pos (starEach es X.env)).any (·.1) = false) :
    PE X (.Call (.Name x p) (e :: es) [] pos) (tCallX sp Φ t) := by
  intro pins s σ H Q I h
  refine wpAny_Call_Name_kw (ld_glob I hg hm ?_ hdb)
  refine PySem.W.callWith_K (h₀ := X.base) I.ok.mod.kin hk (thn (ha pos pins s σ H _ I h) fun us s1 ⟨vs, H1, I1, r, q⟩ => ⟨I1.kIn, ?_⟩) he hpl
  obtain ⟨E, hΦ, q⟩ := q
  have hl : us.length = ps.length := by rw [← r.length]; exact F.len _ _ _ _ q
  have hb2 := hb s1 us I1.kIn (by rw [List.append_nil]; exact hl)
  rw [List.append_nil] at hb2
  refine wpAny_call (codeAny_mono (F.run X.A X.stack s1 H1 ⟨us, []⟩ us vs Q E hr I1.env0 hb2 r q) fun r s' hq => ?_)
  cases r with
  | error e => exact hx pins σ H1 s1 E e s' I1 hΦ hq
  | ok fl =>
    cases fl with
    | ret u => exact I1.after hq
    | next => exact False.elim hq
    | brk => exact False.elim hq
    | cont => exact False.elim hq
end
theorem HOk.untracked {P : Program} {w : World} {H : Hp} {B : Heap} {a : Addr} (hok : HOk P w H B) (hno : B.get? a = none) : H a = none := by
  cases e2 : H a with
  | none => rfl
  | some o =>
    have hlt := hok a o e2
    exfalso
    cases o with
    | lst xs => obtain ⟨_, _, _, _, z⟩ := hlt; rw [hno] at z; cases z
    | tup xs => obtain ⟨_, _, _, z⟩ := hlt; obtain ⟨_, z, _⟩ := z; rw [hno] at z; cases z
    | dK kvs => obtain ⟨_, _, _, _, _, _, _, z, _⟩ := hlt; rw [hno] at z; cases z
    | dT kvs => obtain ⟨_, _, _, _, _, _, _, z, _⟩ := hlt; rw [hno] at z; cases z
    | set S n => obtain ⟨_, _, _, _, z, _⟩ := hlt; rw [hno] at z; cases z
    | ins C dx fs => obtain ⟨_, _, _, z, _⟩ := hlt; rw [hno] at z; cases z
    | own y => obtain ⟨_, z⟩ := hlt; rw [hno] at z; cases z
    | xd fs => obtain ⟨_, ⟨_, _, _, z, _⟩, _⟩ := hlt; rw [hno] at z; cases z
    | rng lo hi => obtain ⟨_, _, _, z⟩ := hlt; rw [hno] at z; cases z
    | frz ob u => obtain ⟨z, _⟩ := hlt; rw [hno] at z; cases z
    | tbl ps => have z : B.get? a = some _ := hlt; rw [hno] at z; cases z
    | met f y => have z : B.get? a = some _ := hlt; rw [hno] at z; cases z
    | ext φ => obtain ⟨_, ⟨_, z⟩, _⟩ := hlt; rw [hno] at z; cases z
abbrev Cx.hand (X : Cx) (ea : Addr) : Cx := { X with A := X.A.mark (some (.ref ea)), calm := false, xe := fun _ _ => False }
abbrev Cx.tried (X : Cx) (xe : Value → Shared → Prop) (pn : List (Addr × Obj)) : Cx := { X with xe := xe, pn := pn }
section
variable {X : Cx} {pins : List (Addr × Obj)} {σ : St} {H : Hp} {s : Shared}
theorem Inv.hand (I : Inv X pins σ H s) (ea : Addr) : Inv (X.hand ea) pins σ H s :=
  ⟨⟨I.ok.mod, I.ok.kind, I.ok.glob, I.ok.blt, I.ok.above, I.ok.inj, I.ok.has, I.ok.cab, fun h => (nomatch (show false = true from h)), I.ok.frames, I.ok.stk, I.ok.exf, I.ok.bs, I.ok.bsz, I.ok.noex, I.ok.exfs, I.ok.funs, I.ok.frf⟩, I.os, I.bare, I.base, I.loc, I.cell, I.free, I.freeC, I.pin, I.hok, I.len⟩
theorem Inv.unhand {ea : Addr} (ok : X.Ok) (I : Inv (X.hand ea) pins σ H s) : Inv X pins σ H s := ⟨ok, I.os, I.bare, I.base, I.loc, I.cell, I.free, I.freeC, I.pin, I.hok, I.len⟩
theorem Inv.tried (I : Inv X pins σ H s) (xe : Value → Shared → Prop) : Inv (X.tried xe (X.pn ++ pins)) [] σ H s :=
  ⟨⟨I.ok.mod, I.ok.kind, I.ok.glob, I.ok.blt, I.ok.above, I.ok.inj, I.ok.has, I.ok.cab, I.ok.hd, I.ok.frames, I.ok.stk, I.ok.exf, I.ok.bs, I.ok.bsz, I.ok.noex, I.ok.exfs, I.ok.funs, I.ok.frf⟩, I.os, I.bare, I.base, I.loc, I.cell, I.free, I.freeC, fun p hp => I.pin p (by simpa using hp), I.hok, I.len⟩
theorem Inv.untried {xe : Value → Shared → Prop} {pins' : List (Addr × Obj)} (ok : X.Ok) (I : Inv (X.tried xe (X.pn ++ pins)) pins' σ H s) : Inv X pins σ H s :=
  ⟨ok, I.os, I.bare, I.base, I.loc, I.cell, I.free, I.freeC, fun p hp => I.pin p (List.mem_append_left _ hp), I.hok, I.len⟩
theorem landed_inv {e : Addr} {cls a0 : Value} {H' : Hp} {B h6 : Heap} {s' : Shared} (I : Inv X pins σ H s) (hos : s'.os = s.os) (hg : AllBare s'.gens) (hok : HOk X.prog X.w H' B) (ub : UnB (frs X.stack) H H' s.heap B s'.heap)
    (hfl0 : Heap.FlyingW B X.stack e cls a0 s'.heap) (hfl : Heap.FlyingW B X.stack e cls a0 h6) (hsm : s'.heap.UpToSlots h6) : Inv X pins σ H' { s' with heap := h6 } := by
  refine I.call' (s' := { s' with heap := h6 }) (ch := []) hos ⟨fun b o eb n hb _ => hfl.1 _ _ (ub.keep b o eb n hb), fun b o eb n hb _ => ?_, fun b o eb n _ => ub.free b o eb n, fun b o eb _ => ?_, ub.tups, ub.frzs, ub.tbls⟩ (hok.kept fun b u e => hfl.1 b u e) hg (fun b hb => absurd hb List.not_mem_nil)
  · obtain ⟨sl, e1⟩ := ub.slot b o eb n hb
    obtain ⟨_, o2, e3, d3⟩ := frs_none hfl0.2.2.1 hb
    rw [e1] at e3
    cases e3
    obtain ⟨sl2, e4⟩ := hsm b _ e1 d3
    exact ⟨sl2, e4⟩
  · by_cases hb : b ∈ frs X.stack
    · obtain ⟨_, o2, e3, _⟩ := frs_none hfl.2.2.1 hb
      exact ⟨o2, e3⟩
    · obtain ⟨o', e1⟩ := ub.there b o eb hb
      exact ⟨o', hfl.1 _ _ e1⟩
def Taken (K : PySem.W.Frag) (D : Addr) (th : Addr → Addr → Hp → Prop) : XK := fun cls _ H' => ∃ C, cls = .ref C ∧ ExcSub K C D ∧ ∀ ea, H' ea = none → th ea C H'
theorem caught_by {x : Str} {D e : Addr} {a0 : Value} {b₀ : Stmt} {suite : List Stmt} {name : Option Str} {np hpos : Pos} {H' : Hp} {B : Heap} {s' : Shared} {C : Addr} {Q : Flow → Shared → Prop} {E : Value → Shared → Prop}
    (hg : Gl X x) (hm : X.mg x = some (.ref D)) (hdb : (x == ("__debug__" : Str)) = false) (hst : X.stack = X.env :: X.outer) (hfr : X.env.frame = some X.env.locals)
    (I : Inv X pins σ H s) (hos : s'.os = s.os) (hgen : AllBare s'.gens) (hok : HOk X.prog X.w H' B) (ub : UnB (frs X.stack) H H' s.heap B s'.heap) (hfl : Heap.FlyingW B X.stack e (.ref C) a0 s'.heap) (hs : ExcSub X.K C D)
    (k : ∀ h6, Heap.FlyingW B X.stack e (.ref C) a0 h6 → s'.heap.UpToSlots h6 →
      codeAny (model X.prog X.w) (X.A.mark (some (.ref e))) (.handlers (.ref e) [.ExceptHandler none name (b₀ :: suite) hpos] X.env) (fun r s₂ => match r with
          | .ok f => (match name with
            | none => Q f s₂
            | some n => wpAny (model X.prog X.w) X.A (do bindName X.env n .none; unbindBehindTheSuite X.env n hpos) (fun _ s₃ => Q f s₃) E s₂)
          | .error x => cameBackBy (model X.prog X.w) X.A X.env E x s₂) { s' with heap := h6 }) :
    wpAny (model X.prog X.w) X.A (noteFrame (.ref e) X.env) (fun _ s₂ => wpAny (model X.prog X.w) X.A (setFlight (.ref e) none) (fun _ s₃ =>
      wpAny (model X.prog X.w) X.A (handleBy (.ref e) X.env [.ExceptHandler (some (.Name x np)) name (b₀ :: suite) hpos]) Q E s₃) E s₂) E s' := by
  have hfl' := hfl
  rw [hst] at hfl'
  refine wpAny_looks_onW (L := X.env.locals) (by rw [I.ok.frames, hst]) hfr hfl' fun h4 hh4 sm4 => ?_
  refine wpAny_landsW hh4 fun h5 hf5 sm5 => ?_
  have hf5' := hf5
  rw [← hst] at hf5'
  have I5 := landed_inv I hos hgen hok ub hfl hf5' (sm4.trans sm5)
  refine wpAny_handleBy_cons (codeAny_handlers_test ?_) (by intro z; cases z)
  have I5h := I5.hand e
  refine ld_glob I5h hg hm ?_ hdb
  obtain ⟨⟨bmB, nid, c1⟩, ⟨bmD, nid', c2, c3⟩, c4⟩ := hs
  obtain ⟨bm, N, nm, qn, bs, hdct, sn, sub, ab, col, dd, k0, k1, k2, k3, k5, oC, TC, mC⟩ := exc_mro I5.kIn c1
  obtain ⟨bm', N', nm', qn', bs', hdct', sn', sub', ab', col', dd', l0, l1, l2, l3, l5, oD, TD, mD⟩ := exc_mro I5.kIn c2
  obtain ⟨ob, hob, hobc⟩ := hf5.there
  obtain ⟨hp, gn, dr, tk, os⟩ := s'
  refine matches_own oC oD hob hobc (TD.hasType c3) (mC _ _ c4) ?_
  exact k h5 hf5' (sm4.trans sm5)
end
section
variable {X : Cx}
end
end L2
set_option Elab.async false
set_option linter.all false
set_option maxRecDepth 100000
namespace L2
open PySem PySem.Spec PyProof.Rows
mutual
inductive Dat (K : PySem.W.Frag) (H : Hp) : V → PyData → Prop where
  | non : Dat K H .non .none
  | bl (b : Bool) : Dat K H (.bl b) (.bool b)
  | int (i : Int) : Dat K H (.int i) (.int i)
  | str (x : Str) : Dat K H (.str x) (.str x)
  | lst {a : Addr} {xs : List V} {ds : List PyData} (h : SqL K H a xs) (t : DatAll K H xs ds) : Dat K H (.ref a) (.list ds)
  | tup {a : Addr} {xs : List V} {ds : List PyData} (h : SqT K H a xs) (t : DatAll K H xs ds) : Dat K H (.ref a) (.tuple ds)
inductive DatAll (K : PySem.W.Frag) (H : Hp) : List V → List PyData → Prop where
  | nil : DatAll K H [] []
  | cons {x : V} {xs : List V} {d : PyData} {ds : List PyData} (h : Dat K H x d) (t : DatAll K H xs ds) : DatAll K H (x :: xs) (d :: ds)
end
section
variable {X : Cx} {pins : List (Addr × Obj)} {σ : St} {H : Hp} {s : Shared}
end
section
variable {X : Cx}
end
theorem PS.nox {X : Cx} {st : Stmt} {t : TS} (h : PS X.nox st t) : PS X st t := fun pins s σ H D I hw =>
  wpAny_mono (h pins s σ H D (I.wish _) hw) (fun _ _ q => q.unwish) fun _ _ z => z.elim
section
variable {X : Cx} {e : Expr} {es : List Expr} {t : TA} {x : Str} {p pos np cpos hpos : Pos}
theorem ks_nox {st : Stmt} {t : TS} (h : QS X.nox st t) : QS X st t := ⟨PS.nox h.p⟩
theorem pass1 {P : Program} {w : World} : Passes (CX1 P w) X E0 := fun _ _ _ _ _ _ _ ⟨_, _, _, _, _, _, _, _, _, _, _, q⟩ => q.elim
theorem ke_callX {Φ : St → XK → Prop} {k : Nat} {f : Addr} {fd : FuncData} {ps : List Str} {sp : Sp} (F : FnOk X.prog X.w X.K X.mg X.base (CX1 X.prog X.w) k f fd ps sp) (hr : Room k X.A) (hm : X.mg x = some (.ref f)) (hk : PySem.W.keepIn X.K (.ref f) = true) (hb : Binds X.K fd ps []) (hx : PassesX X Φ)
    (ha : QA X (e :: es) t) (hg : X.env.kindOf x = some .globalImplicit := by kernel_rfl) (hdb : (x == ("__debug__" : Str)) = false := by kernel_rfl) (he : starEach (e :: es) X.env = (false, eval e X.env) :: starEach es X.env := by kernel_rfl) (hpl : (backTo pos (starEach es X.env)).any (·.1) = false := by kernel_rfl) :
    QE X (.Call (.Name x p) (e :: es) [] pos) (tCallX sp Φ t) := ⟨pe_callX F hr hg hm hk hb hx ha.p hdb he hpl⟩
theorem ks_raise {C : Addr} {B newId initId : String} {bmB : List Value} {E : XK} (FB : ExcBaseFacts B newId initId bmB) (hC : PySem.W.excIn X.K C bmB newId = true) (hm : X.mg x = some (.ref C)) (ha : QA X (e :: es) t)
    (hx : ∀ (pins : List (Addr × Obj)) (σ : St) (H2 : Hp) (s2 : Shared) (h' : Heap) (ea : Addr) (vs : List Value), Inv X pins σ H2 s2 → Heap.MadeExcOf s2.heap h' ea (.ref C) vs → E (.ref C) none H2 → X.xe (.ref ea) { s2 with heap := h' })
    (hg : X.env.kindOf x = some .globalImplicit := by kernel_rfl) (hc : X.calm = true := by kernel_rfl)
    (hdb : (x == ("__debug__" : Str)) = false := by kernel_rfl) (he : starEach (e :: es) X.env = (false, eval e X.env) :: starEach es X.env := by kernel_rfl) (hpl : (backTo cpos (starEach es X.env)).any (·.1) = false := by kernel_rfl) :
    QS X (.Raise (some (.Call (.Name x np) (e :: es) [] cpos)) none pos) (tRaise (.ref C) E t) := ⟨ps_raise FB hC hg hm hc ha.p hx hdb he hpl⟩
end
theorem Fun.okX {P : Program} {w : World} {K : PySem.W.Frag} {mg : Str → Option Value} {base : Heap} {x qual : Str} {st : Stmt} {f : Addr} {fd : FuncData} {N ps : List Str} {k : Nat} {sp : Sp} (F : Fun K x qual st f fd) (S : FnScope N ps (defScope st)) {rd : XK → TS} (len : ∀ vs H Q E, sp vs H Q E → vs.length = ps.length)
    (hb : ∀ (cdv : Value) (A : Around) (outer : List Env) (s : Shared) (H : Hp) (E : XK), Room k (A.deeper (envOfC qual (defScope st) s.heap.objs.size f cdv)) → QSs (cxOf (CX1 P w) P w K mg base N qual (defScope st) f cdv A outer s H E) (defBody st) (rd E))
    (hq : ∀ (vs : List V) (H : Hp) (Q : VK) (E : XK), sp vs H Q E → rd E { nx := fun _ H' => Q .non H', rt := Q } (start N vs) H) : FnOk P w K mg base (CX1 P w) (k + 1) f fd ps sp := by
  obtain ⟨oc, od, kV, doc, pm, an, cdv, ct, osl, rfl, lk, hcd⟩ := F.ex
  exact fn_of lk hcd S len fun A outer s H vs Q E hr hsp => ⟨rd E, (hb cdv A outer s H E hr).p, hq vs H Q E hsp⟩
end L2
set_option Elab.async false
set_option linter.all false
set_option maxRecDepth 100000
namespace L2
open PySem PySem.Spec PyProof.Rows PySem.Builtin.Str
theorem fold_rep (c : Nat) : ∀ (n : Nat) (acc : List Nat), (List.replicate n (#[c] : Array Nat)).foldl (· ++ ·) acc.toArray = (acc ++ List.replicate n c).toArray
  | 0, acc => by simp
  | n + 1, acc => by
    rw [List.replicate_succ, List.foldl_cons]
    have e : acc.toArray ++ #[c] = (acc ++ [c]).toArray := by simp
    rw [e, fold_rep c n (acc ++ [c]), List.replicate_succ]
    simp
theorem mul_one_sign {c : Nat} {k : Int} (h0 : 0 ≤ k) : Txt.mul (txt [c]) k = txt (List.replicate k.toNat c) := by
  unfold Txt.mul
  by_cases h1 : k < 1
  · rw [if_pos h1]
    obtain rfl : k = 0 := by omega
    show Str.empty = txt []
    decide +kernel
  · rw [if_neg h1]
    by_cases h2 : k = 1
    · subst h2
      rw [if_pos (by simp)]
      rfl
    · rw [if_neg (by simp [h2, txt_len])]
      have e := fold_rep c k.toNat []
      rw [List.nil_append] at e
      show Str.mk ((List.replicate k.toNat (txt [c]).cps).foldl (· ++ ·) #[]) = _
      have e2 : (txt [c]).cps = #[c] := rfl
      rw [e2]
      exact congrArg Str.mk e
abbrev rMulS : R2 := fun x y H Q => ∃ (c : Nat) (k : Int), x = .str (txt [c]) ∧ y = .int k ∧ 0 ≤ k ∧ k ≤ 100000 ∧ Q (.str (txt (List.replicate k.toNat c))) H
theorem mulOk_one {c : Nat} {k : Int} (h0 : 0 ≤ k) (h1 : k ≤ 100000) : MulOk (txt [c]) k := by
  refine ⟨?_, fun _ _ => ?_, fun _ _ => ?_⟩
  · simp; omega
  · rw [txt_len]
    have : (1 : Int) ≤ (2 ^ 63 - 1) / k := (Int.le_ediv_iff_mul_le (by omega)).mpr (by omega)
    simp only [List.length_cons, List.length_nil]; omega
  · rw [txt_len]
    unfold tooLong
    simp only [List.length_cons, List.length_nil, Nat.one_mul, Nat.zero_add, decide_eq_false_iff_not]
    have : (100000 : Nat) ≤ sizeLine := by decide
    omega
section
variable {X : Cx}
theorem op_mulS : OpR X (binaryOp .Mult) rMulS := by
  intro pins s σ H x y v u Q I rx ry h
  obtain ⟨c, k, rfl, rfl, h0, h1, q⟩ := h
  obtain ⟨t, rfl⟩ := rx
  obtain ⟨t', rfl⟩ := ry
  refine SB.mul (mulOk_one h0 h1) fun t2 k2 => ⟨.str (txt (List.replicate k.toNat c)), H, I.tok k2, ⟨t2, by rw [mul_one_sign h0]⟩, q⟩
end
theorem mulS_go {H : Hp} {c : Nat} {k : Int} {Q : VK} (h0 : 0 ≤ k) (h1 : k ≤ 100000) (q : Q (.str (txt (List.replicate k.toNat c))) H) : rMulS (.str (txt [c])) (.int k) H Q := ⟨c, k, rfl, rfl, h0, h1, q⟩
end L2
set_option Elab.async false
set_option linter.all false
set_option maxRecDepth 100000
namespace L2
open PySem PySem.Spec PyProof.Rows
def excO (ea C : Addr) : HO := .ext fun h => ∃ o, h.get? ea = some o ∧ o.cls = .ref C
def tTryE (K : PySem.W.Frag) (D : Addr) (i : Nat) (tb : (St → XK → Prop) → TS) (th : TS) : TS := fun Dn σ H =>
  tb (fun σ' E => σ' = σ ∧ E = Taken K D fun ea C H' => th { nx := fun σ2 H2 => Dn.nx (σ2.set i none) H2, rt := Dn.rt, bk := fun σ2 H2 => Dn.bk (σ2.set i none) H2, ct := fun σ2 H2 => Dn.ct (σ2.set i none) H2 } (σ.set i (some (.ref ea))) (upd H' ea (excO ea C))) Dn σ H
section
variable {X : Cx} {pins : List (Addr × Obj)} {σ : St} {H : Hp} {s : Shared}
theorem landed_invE {e C : Addr} {a0 : Value} {H' : Hp} {B h6 : Heap} {s' : Shared} (I : Inv X pins σ H s) (hos : s'.os = s.os) (hg : AllBare s'.gens) (hok : HOk X.prog X.w H' B) (ub : UnB (frs X.stack) H H' s.heap B s'.heap)
    (hfl0 : Heap.FlyingW B X.stack e (.ref C) a0 s'.heap) (hfl : Heap.FlyingW B X.stack e (.ref C) a0 h6) (hsm : s'.heap.UpToSlots h6) : Inv X pins σ (upd H' e (excO e C)) { s' with heap := h6 } := by
  have hn := hok.untracked hfl.2.1
  have ne : ∀ b o, s.heap.get? b = some o → b ≠ e := fun b o eb z => by
    subst z
    by_cases hb : b ∈ frs X.stack
    · obtain ⟨_, o2, e3, d3⟩ := frs_none hfl.2.2.1 hb
      obtain ⟨oe, vs, e4, _, d4, _⟩ := hfl.first
      rw [e3] at e4
      cases e4
      exact d3 _ d4
    · obtain ⟨o', e1⟩ := ub.there b o eb hb
      rw [hfl.2.1] at e1; cases e1
  refine I.call' (s' := { s' with heap := h6 }) (ch := []) hos ⟨fun b o eb n hb _ => hfl.1 _ _ (ub.keep b o eb n hb), fun b o eb n hb _ => ?_, fun b o eb n _ => by rw [upd_ne (ne b o eb)]; exact ub.free b o eb n, fun b o eb _ => ?_, fun b xs q => ?_, fun b o u q => ?_, fun b ps q => ?_⟩ (fun b o eb => ?_) hg (fun b hb => absurd hb List.not_mem_nil)
  · obtain ⟨sl, e1⟩ := ub.slot b o eb n hb
    obtain ⟨_, o2, e3, d3⟩ := frs_none hfl0.2.2.1 hb
    rw [e1] at e3
    cases e3
    obtain ⟨sl2, e4⟩ := hsm b _ e1 d3
    exact ⟨sl2, e4⟩
  · by_cases hb : b ∈ frs X.stack
    · obtain ⟨_, o2, e3, _⟩ := frs_none hfl.2.2.1 hb
      exact ⟨o2, e3⟩
    · obtain ⟨o', e1⟩ := ub.there b o eb hb
      exact ⟨o', hfl.1 _ _ e1⟩
  · have q2 := ub.tups b xs q
    rw [upd_ne (ne_of_none q2 hn)]; exact q2
  · have q2 := ub.frzs b o u q
    rw [upd_ne (ne_of_none q2 hn)]; exact q2
  · obtain ⟨more, q2⟩ := ub.tbls b ps q
    exact ⟨more, by rw [upd_ne (ne_of_none q2 hn)]; exact q2⟩
  · by_cases hb : b = e
    · subst hb
      rw [upd_same] at eb
      cases eb
      obtain ⟨oe, vs, e4, c4, d4, _⟩ := hfl.first
      exact ⟨⟨oe, e4, c4⟩, ⟨oe, e4⟩, fun h1 h2 ⟨o, q1, q2⟩ k => ⟨o, k o q1, q2⟩⟩
    · rw [upd_ne hb] at eb
      refine (hok b o eb).stay (fun c v _ q => hfl.1 c v q) (fun c q => by rw [upd_ne (ne_of_none q hn)]; exact q) fun c xs q => by rw [upd_ne (ne_of_none q hn)]; exact q
theorem Inv.gone {i : Nat} {n : Str} {h' : Heap} {v : Option Value} {m : Str → Option Value} {tk : Nat} (I : Inv X pins σ H s) (hN : X.N.Nodup) (hi : X.N[i]? = some n) (hn : s.heap.Ns X.env.locals m)
    (hl : ∀ (j : Nat) (x : Str) (w : V), X.N[j]? = some x → σ[j]? = some (some w) → Vis X.env.scope x → ∃ u, RelV w u ∧ Look X.env s.heap m x u)
    (hn' : h'.Ns X.env.locals (fun x => if x = n then v else m x)) (hs : Heap.SameBut X.env.locals s.heap h') : Inv X pins (σ.set i none) H { s with heap := h', toks := tk } := by
  have cne := I.cne
  have hiσ : i < σ.length := by rw [I.len]; exact (List.getElem?_eq_some_iff.mp hi).1
  refine ⟨I.ok, I.os, I.bare, ⟨fun b o e n hb hx => ?_, fun b o e n hb hx => ?_, I.base.free, fun b o e hx => ?_, I.base.tups, I.base.frzs, I.base.tbls⟩, ⟨_, hn', fun j y v' e1 e2 e3 => ?_⟩, fun y c e => ?_, I.free, I.freeC, fun p hp => ?_, fun b ob e => ?_, by simpa using I.len⟩
  · exact (hs.2 b (Nat.ne_of_lt (Nat.lt_of_lt_of_le (Heap.lt_size e) I.ok.above))).trans (I.base.keep b o e n hb hx)
  · obtain ⟨sl, e1⟩ := I.base.slot b o e n hb hx
    exact ⟨sl, (hs.2 b (Nat.ne_of_lt (Nat.lt_of_lt_of_le (Heap.lt_size e) I.ok.above))).trans e1⟩
  · obtain ⟨o', e1⟩ := I.base.there b o e hx
    exact ⟨o', (hs.2 b (Nat.ne_of_lt (Nat.lt_of_lt_of_le (Heap.lt_size e) I.ok.above))).trans e1⟩
  · by_cases hj : j = i
    · subst hj
      rw [List.getElem?_set_self hiσ] at e2
      cases e2
    · rw [List.getElem?_set_ne (Ne.symm hj)] at e2
      obtain ⟨u', r', q⟩ := hl j y v' e1 e2 e3
      refine ⟨u', r', ?_⟩
      rcases q with ⟨k, e⟩ | ⟨k, c, e, z⟩
      · refine .inl ⟨k, ?_⟩
        have : y ≠ n := fun e => hj (nodup_ix hN e1 (e ▸ hi))
        simp [this, e]
      · exact .inr ⟨k, c, e, z.sameBut hs (cne y c e)⟩
  · obtain ⟨w', z⟩ := I.cell y c e
    exact ⟨w', z.sameBut hs (cne y c e)⟩
  · obtain ⟨e, n, ne, nf, d⟩ := I.pin p hp
    exact ⟨(hs.2 p.1 ne).trans e, n, ne, nf, d⟩
  · refine (I.hok b ob e).stay (fun c w' hc q => (hs.2 c ?_).trans q) (fun _ q => q) fun _ _ q => q
    rintro rfl
    rcases hc with rfl | hc
    · rw [I.free] at e; cases e
    · rw [I.free] at hc; cases hc
theorem ps_tryE {i : Nat} {n : Str} {body : List Stmt} {tb : (St → XK → Prop) → TS} {x : Str} {D : Addr} {b₀ : Stmt} {suite : List Stmt} {th : TS} {np hpos pos : Pos} (hN : X.N.Nodup) (hi : X.N[i]? = some n) (hk : X.env.scope.names.lookup n = some .local)
    (hg : Gl X x) (hm : X.mg x = some (.ref D)) (hdb : (x == ("__debug__" : Str)) = false) (hst : X.stack = X.env :: X.outer) (hfr : X.env.frame = some X.env.locals)
    (hb : ∀ (xe : Value → Shared → Prop) (pn : List (Addr × Obj)) (Φ : St → XK → Prop), PassesX (X.tried xe pn) Φ → PSs (X.tried xe pn) body (tb Φ))
    (hh : ∀ ea, PSs (X.hand ea) (b₀ :: suite) th) :
    PS X (.Try body [.ExceptHandler (some (.Name x np)) (some n) (b₀ :: suite) hpos] [] [] pos) (tTryE X.K D i tb th) := by
  intro pins s σ H Dn I h
  refine wpAny_Try_except ?_
  let Dh : Ends := { nx := fun σ2 H2 => Dn.nx (σ2.set i none) H2, rt := Dn.rt, bk := fun σ2 H2 => Dn.bk (σ2.set i none) H2, ct := fun σ2 H2 => Dn.ct (σ2.set i none) H2 }
  let E0 : XK := Taken X.K D fun ea C H' => th Dh (σ.set i (some (.ref ea))) (upd H' ea (excO ea C))
  let xe : Value → Shared → Prop := fun e s' => ∃ H1 s1, Inv X pins σ H1 s1 ∧ CX1 X.prog X.w X.stack H1 s1 E0 e s'
  have hP : PassesX (X.tried xe (X.pn ++ pins)) (fun σ' E => σ' = σ ∧ E = E0) := by
    rintro pins' σ' H1 s1 E e s' I1 ⟨rfl, rfl⟩ hc
    exact ⟨H1, s1, I1.untried I.ok, hc⟩
  have hbody := hb xe (X.pn ++ pins) _ hP [] s σ H Dn (I.tried xe) h
  have hcls : (X.env.scope.kind == .class || (X.env.scope.kind == .module && X.env.locals != X.env.globals)) = false := by rw [I.ok.kind]; rfl
  refine wpAny_mono hbody (fun fl s' q => ?_) fun e s' q => ?_
  · cases fl with
    | next => obtain ⟨σ', H', J, q⟩ := q; exact wpAny_execs_nil ⟨σ', H', J.untried I.ok, q⟩
    | brk => obtain ⟨σ', H', J, q⟩ := q; exact ⟨σ', H', J.untried I.ok, q⟩
    | cont => obtain ⟨σ', H', J, q⟩ := q; exact ⟨σ', H', J.untried I.ok, q⟩
    | ret u => obtain ⟨v, σ', H', J, r, q⟩ := q; exact ⟨v, σ', H', J.untried I.ok, r, q⟩
  · obtain ⟨H1, s1, I1, ea, cls, t, H2, B, rfl, hos, hgen, hfl, hok, ub, C, rfl, hsub, q⟩ := q
    have hn := hok.untracked hfl.2.1
    refine caught_by hg hm hdb hst hfr I1 hos hgen hok ub hfl hsub fun h6 hf6 sm6 => ?_
    refine codeAny_handlers_suite_as (lands_againW (s := { s' with heap := h6 }) hf6 fun h7 hf7 sm7 => ?_)
    have I7 : Inv X pins σ (upd H2 ea (excO ea C)) { s' with heap := h7 } := landed_invE I1 hos hgen hok ub hfl hf7 (sm6.trans sm7)
    refine store_ok (X := X.hand ea) (I7.hand ea) hN hi (.inl hk) (v := .ref ea) (u := .ref ea) rfl (fun s8 I8 => ?_) (.inr hk)
    refine wpAny_mono (hh ea pins s8 _ _ Dh I8 (q ea hn)) (fun fl s9 q9 => ?_) (fun _ _ z => z.elim)
    have goes : ∀ {σ' : St} {H' : Hp} {Q : Shared → Prop}, Inv (X.hand ea) pins σ' H' s9 → (∀ s10, Inv X pins (σ'.set i none) H' s10 → Q s10) →
        wpAny (model X.prog X.w) X.A (do bindName X.env n .none; unbindBehindTheSuite X.env n hpos) (fun _ s₃ => Q s₃) X.xe s9 := fun {σ' H' Q} J k => by
      have J' := J.unhand I.ok
      obtain ⟨m, hm1, hl1⟩ := id J'.loc
      exact wpAny_nameGoes_keeps hk hm1 hcls fun h' v hn' hs' => k _ (J'.gone hN hi hm1 hl1 hn' hs')
    cases fl with
    | next => obtain ⟨σ', H', J, q⟩ := q9; exact goes J fun s10 J10 => ⟨_, H', J10, q⟩
    | brk => obtain ⟨σ', H', J, q⟩ := q9; exact goes J fun s10 J10 => ⟨_, H', J10, q⟩
    | cont => obtain ⟨σ', H', J, q⟩ := q9; exact goes J fun s10 J10 => ⟨_, H', J10, q⟩
    | ret u => obtain ⟨v, σ', H', J, r, q⟩ := q9; exact goes J fun s10 J10 => ⟨v, _, H', J10, r, q⟩
end
section
variable {X : Cx}
theorem ks_tryE {i : Nat} {n x : Str} {body : List Stmt} {tb : (St → XK → Prop) → TS} {D : Addr} {b₀ : Stmt} {suite : List Stmt} {th : TS} {np hpos pos : Pos} (hN : X.N.Nodup) (hm : X.mg x = some (.ref D))
    (hb : ∀ (xe : Value → Shared → Prop) (pn : List (Addr × Obj)) (Φ : St → XK → Prop), PassesX (X.tried xe pn) Φ → QSs (X.tried xe pn) body (tb Φ)) (hh : ∀ ea, QSs (X.hand ea) (b₀ :: suite) th)
    (hi : X.N[i]? = some n := by kernel_rfl) (hk : X.env.scope.names.lookup n = some .local := by kernel_rfl)
    (hg : X.env.kindOf x = some .globalImplicit := by kernel_rfl) (hdb : (x == ("__debug__" : Str)) = false := by kernel_rfl) (hst : X.stack = X.env :: X.outer := by kernel_rfl) (hfr : X.env.frame = some X.env.locals := by kernel_rfl) :
    QS X (.Try body [.ExceptHandler (some (.Name x np)) (some n) (b₀ :: suite) hpos] [] [] pos) (tTryE X.K D i tb th) := ⟨ps_tryE hN hi hk hg hm hdb hst hfr (fun xe pn Φ hx => (hb xe pn Φ hx).p) fun ea => (hh ea).p⟩
end
end L2
set_option Elab.async false
set_option linter.all false
set_option maxRecDepth 100000
namespace L2
open PySem PySem.Spec PyProof.Rows
def twoOf (a b : List Nat) (i : Nat) : List Nat := if i = 0 then a else b
theorem two_at {a b : List Nat} {t u : Tok} {i : Nat} {v : Value} (h : (#[Value.str (txt a) t, Value.str (txt b) u])[i]? = some v) : ∃ t', v = .str (txt (twoOf a b i)) t' := by
  match i, h with
  | 0, h => simp at h; exact ⟨t, h.symm⟩
  | 1, h => simp at h; exact ⟨u, h.symm⟩
  | _ + 2, h => simp at h
section
variable {prog : Program} {w : World} {A : Around} {E : Value → Shared → Prop} {s : Shared}
end
section
variable {X : Cx}
end
end L2
set_option Elab.async false
set_option linter.all false
set_option maxRecDepth 100000
namespace L2
open PySem PySem.Spec PyProof.Rows
section
variable {X : Cx} {tg : Expr}
end
end L2
set_option Elab.async false
set_option linter.all false
set_option maxRecDepth 100000
namespace L2
open PySem PySem.Spec PyProof.Rows
variable {X : Cx}
end L2
set_option Elab.async false
set_option linter.all false
set_option maxRecDepth 100000
namespace L2
open PySem PySem.Spec PyProof.Rows
section
variable {X : Cx}
end
theorem Same.tup {K : PySem.W.Frag} {H H' : Hp} {a : Addr} {xs : List V} (e : Same H H') (h : SqT K H a xs) : SqT K H' a xs := by
  rcases h with (h | ⟨o, h⟩) | h
  · exact .inl (.inl (e _ _ h))
  · exact .inl (.inr ⟨o, e _ _ h⟩)
  · exact .inr h
theorem seq_any {A C : TS} {D : Ends} {σ : St} {H : Hp} (h : ∀ c : St → Hp → Prop, (∀ σ' H', C D σ' H' → c σ' H') → A { D with nx := c } σ H) : tSeq A C D σ H := h _ fun _ _ z => z
theorem seq_set {te : TE} {i : Nat} {C : TS} {D : Ends} {σ : St} {H : Hp} (h : ∀ c : V → Hp → Prop, (∀ x H1, C D (σ.set i (some x)) H1 → c x H1) → te σ H c) : tSeq (tAsg te (gName i)) C D σ H := h _ fun _ _ z => z
end L2
set_option Elab.async false
set_option linter.all false
set_option maxRecDepth 100000
namespace Asc
open PySem PyProof.Rows
section
variable {P : Program} {wd : World} {Ar : Around} {Er : Value → Shared → Prop} {sh : Shared} {b0 : Array Keyed} {kd : KeyKind}
end
end Asc
namespace L2
open PySem PySem.Spec PyProof.Rows
section
variable {X : Cx}
end
end L2
set_option Elab.async false
set_option linter.all false
set_option maxRecDepth 100000
namespace L2
open PySem PySem.Spec PyProof.Rows
section
variable {X : Cx}
end
section
variable {X : Cx} {iter : Expr} {x x2 : Str} {px px2 ptg pos : Pos} {kt : Nat}
end
end L2
set_option Elab.async false
set_option linter.all false
set_option maxRecDepth 100000
namespace MaxD
open PySem PyProof.Rows
section
variable {P : Program} {wd : World} {Ar : Around} {Rs : Result → Shared → Prop} {it : Addr} {fp wr : List Addr} {n : Nat} {F : Nat → Value → Prop} {St : Nat → Heap → Prop}
theorem rest (W : Walks P wd Ar.in1 it fp wr n F St) (bt : Nat → Nat → Bool) (cmp : CmpOf P wd Ar.in1 .Gt F bt) (S : Addr) (hS : S ∉ fp) (kw : List (Str × Value)) :
    ∀ (k j : Nat) (s : Shared) (vb : Value) (c : Nat), n - (j + 1) = k → j + 1 ≤ n → St (j + 1) s.heap → F (argBest bt j) vb → s.heap.get? S = some { cls := .type "list", dict := none, data := .seq #[vb, vb] c, slots := #[] } →
    (∀ v h' tk, F (argBest bt (n - 1)) v → (∀ b o, b ∉ wr → b ≠ S → s.heap.get? b = some o → h'.get? b = some o) → Rs (.ok (.ret v)) { s with heap := h', toks := tk }) → codeAny (model P wd) Ar (.builtin "max.loop" ⟨[.ref it, .none, .ref S], kw⟩) Rs s := by
  have wS : S ∉ wr := fun h => hS (W.sub _ h)
  have nm : (toString "max" ++ toString ".loop" : String) = "max.loop" := by decide
  intro k
  induction k with
  | zero =>
    intro j s vb c hk hj st best hb q
    have e : j + 1 = n := by omega
    refine codeAny_builtin PySem.F.entry_max_loop ?_
    rw [Around.under_plainId PySem.F.plain_max_loop _]
    show wpAny _ Ar.in1 (seqItems? (.ref S) >>= _) _ _ s
    refine wpAny_bind (wpAny_seqItems hb rfl ?_)
    show wpAny _ Ar.in1 (tryCatch (pyNext (.ref it)) _ >>= _) _ _ s
    refine wpAny_bind (wpAny_tryCatch (W.done s _ _ (e ▸ st) fun h' tk kp => ?_))
    show wpAny _ Ar.in1 (updateSeq S (fun _ => #[]) >>= _) _ _ _
    refine wpAny_bind (wpAny_updateSeq (kp S _ wS hb) rfl (wpAny_bind (wpAny_letGo (wpAny_pure ?_))))
    exact q vb _ tk (by rw [← e]; exact best) fun b o hbw hbS eb => (Heap.get?_update_other _ _ (Ne.symm hbS)).trans (kp b o hbw eb)
  | succ k ih =>
    intro j s vb c hk hj st best hb q
    have lt : j + 1 < n := by omega
    refine codeAny_builtin PySem.F.entry_max_loop ?_
    rw [Around.under_plainId PySem.F.plain_max_loop _]
    show wpAny _ Ar.in1 (seqItems? (.ref S) >>= _) _ _ s
    refine wpAny_bind (wpAny_seqItems hb rfl ?_)
    show wpAny _ Ar.in1 (tryCatch (pyNext (.ref it)) _ >>= _) _ _ s
    refine wpAny_bind (wpAny_tryCatch (W.item (j + 1) s _ _ lt st fun v h' tk fv st' kp => ?_))
    have hb' := kp S _ wS hb
    show wpAny _ Ar.in1 (tryCatch (holding [v, v] (richCompare .Gt v vb >>= _)) _ >>= _) _ _ _
    refine wpAny_bind (wpAny_tryCatch (wpAny_holding (wpAny_bind (cmp (j + 1) (argBest bt j) v vb _ _ _ fv best ?_))))
    refine wpAny_bind (wpAny_holding (wpAny_truthy_bool (wpAny_bind (wpAny_letGo (wpAny_pure ?_)))))
    cases eb : bt (j + 1) (argBest bt j) with
    | true =>
      simp only [if_true]
      refine wpAny_bind (wpAny_updateSeq hb' rfl (wpAny_bind (wpAny_letGo ?_)))
      rw [nm]
      refine wpAny_pure ⟨plainId_quiet PySem.F.plain_max_loop _, ih (j + 1) _ v _ (by omega) lt (W.frame _ _ _ st' fun b hbf o e => ?_) (by simp only [argBest, eb, if_true]; exact fv) (Heap.get?_update_self _ hb' rfl) fun v' h2 tk2 fv2 kp2 => ?_⟩
      · exact (Heap.get?_update_other _ _ (fun z : S = b => hS (by rw [z]; exact hbf))).trans e
      · exact q v' h2 tk2 fv2 fun b o hbw hbS e => kp2 b o hbw hbS ((Heap.get?_update_other _ _ (Ne.symm hbS)).trans (kp b o hbw e))
    | false =>
      simp only [Bool.false_eq_true, if_false]
      refine wpAny_bind (wpAny_letGo ?_)
      rw [nm]
      refine wpAny_pure ⟨plainId_quiet PySem.F.plain_max_loop _, ih (j + 1) _ vb c (by omega) lt st' (by simp only [argBest, eb, Bool.false_eq_true, if_false]; exact best) hb' fun v' h2 tk2 fv2 kp2 => ?_⟩
      exact q v' h2 tk2 fv2 fun b o hbw hbS e => kp2 b o hbw hbS (kp b o hbw e)
theorem whole (W : Walks P wd Ar.in1 it fp wr n F St) (bt : Nat → Nat → Bool) (cmp : CmpOf P wd Ar.in1 .Gt F bt) (S : Addr) (hS : S ∉ fp) (d : Value) {s : Shared} {c : Nat} (st : St 0 s.heap) (hb : s.heap.get? S = some { cls := .type "list", dict := none, data := .seq #[] c, slots := #[] })
    (q : ∀ v h' tk, (0 < n → F (argBest bt (n - 1)) v) → (n = 0 → v = d) → (∀ b o, b ∉ wr → b ≠ S → s.heap.get? b = some o → h'.get? b = some o) → Rs (.ok (.ret v)) { s with heap := h', toks := tk }) :
    codeAny (model P wd) Ar (.builtin "max.loop" ⟨[.ref it, .none, .ref S], [("default", d)]⟩) Rs s := by
  have wS : S ∉ wr := fun h => hS (W.sub _ h)
  have nm : (toString "max" ++ toString ".loop" : String) = "max.loop" := by decide
  refine codeAny_builtin PySem.F.entry_max_loop ?_
  rw [Around.under_plainId PySem.F.plain_max_loop _]
  show wpAny _ Ar.in1 (seqItems? (.ref S) >>= _) _ _ s
  refine wpAny_bind (wpAny_seqItems hb rfl ?_)
  show wpAny _ Ar.in1 (tryCatch (pyNext (.ref it)) _ >>= _) _ _ s
  by_cases hn : 0 < n
  · refine wpAny_bind (wpAny_tryCatch (W.item 0 s _ _ hn st fun v h' tk fv st' kp => ?_))
    have hb' := kp S _ wS hb
    show wpAny _ Ar.in1 (updateSeq S (fun _ => #[v, v]) >>= _) _ _ _
    refine wpAny_bind (wpAny_updateSeq hb' rfl ?_)
    rw [nm]
    refine wpAny_pure ⟨plainId_quiet PySem.F.plain_max_loop _, rest W bt cmp S hS _ _ 0 _ v _ rfl hn (W.frame _ _ _ st' fun b hbf o e => ?_) fv (Heap.get?_update_self _ hb' rfl) fun v' h2 tk2 fv2 kp2 => ?_⟩
    · exact (Heap.get?_update_other _ _ (fun z : S = b => hS (by rw [z]; exact hbf))).trans e
    · exact q v' h2 tk2 (fun _ => fv2) (fun z => by omega) fun b o hbw hbS e => kp2 b o hbw hbS ((Heap.get?_update_other _ _ (Ne.symm hbS)).trans (kp b o hbw e))
  · have e0 : n = 0 := by omega
    refine wpAny_bind (wpAny_tryCatch (W.done s _ _ (e0 ▸ st) fun h' tk kp => ?_))
    first
      | exact wpAny_bind (wpAny_rule (wpAny_pure (q d h' tk (fun z => absurd z hn) (fun _ => rfl) fun b o hbw _ e => kp b o hbw e)))
      | (refine wpAny_bind (wpAny_rule ?_); exact wpAny_pure (q d h' tk (fun z => absurd z hn) (fun _ => rfl) fun b o hbw _ e => kp b o hbw e))
end
section
variable {P : Program} {wd : World} {Ar : Around} {Er : Value → Shared → Prop} {s : Shared}
end
end MaxD
namespace L2
open PySem PySem.Spec PyProof.Rows
section
variable {X : Cx}
end
end L2
namespace L2
open PySem PySem.Spec PyProof.Rows
section
variable {X : Cx} {e o value d : Expr} {es : List Expr} {f x m : Str} {pos pos' p apos kp : Pos} {ta tv td : TE} {t : TA}
variable {CX : CXT} {k : Nat} {g C : Addr} {fd : FuncData} {ps : List Str} {sp : Sp} {E : XK}
end
end L2
set_option Elab.async false
set_option linter.all false
set_option maxRecDepth 100000
namespace L2
open PySem PySem.Spec PyProof.Rows
section
variable {X : Cx}
end
end L2
set_option Elab.async false
set_option linter.all false
set_option maxRecDepth 100000
namespace L2
open PySem PySem.Spec PyProof.Rows
theorem ex1 {α : Type} {us : List α} (hl : us.length = 1) : ∃ a0, us = [a0] := by
  match us, hl with
  | [_], _ => exact ⟨_, rfl⟩
theorem ex2 {α : Type} {us : List α} (hl : us.length = 2) : ∃ a0 a1, us = [a0, a1] := by
  match us, hl with
  | [_, _], _ => exact ⟨_, _, rfl⟩
theorem ex3 {α : Type} {us : List α} (hl : us.length = 3) : ∃ a0 a1 a2, us = [a0, a1, a2] := by
  match us, hl with
  | [_, _, _], _ => exact ⟨_, _, _, rfl⟩
theorem ex4 {α : Type} {us : List α} (hl : us.length = 4) : ∃ a0 a1 a2 a3, us = [a0, a1, a2, a3] := by
  match us, hl with
  | [_, _, _, _], _ => exact ⟨_, _, _, _, rfl⟩
theorem ex6 {α : Type} {us : List α} (hl : us.length = 6) : ∃ a0 a1 a2 a3 a4 a5, us = [a0, a1, a2, a3, a4, a5] := by
  match us, hl with
  | [_, _, _, _, _, _], _ => exact ⟨_, _, _, _, _, _, rfl⟩
theorem ex7 {α : Type} {us : List α} (hl : us.length = 7) : ∃ a0 a1 a2 a3 a4 a5 a6, us = [a0, a1, a2, a3, a4, a5, a6] := by
  match us, hl with
  | [_, _, _, _, _, _, _], _ => exact ⟨_, _, _, _, _, _, _, rfl⟩
section
variable {X : Cx}
end
end L2
namespace MM
def val (K : Nat) : List Nat → Nat → Nat
  | _, 0 => 0
  | [], _ + 1 => 0
  | c :: m, n + 1 => (c - 97) * K ^ n + val K m n
def Ls (K : Nat) (m : List Nat) : Prop := ∀ c ∈ m, 97 ≤ c ∧ c < 97 + K
def Na (m : List Nat) : Prop := ∀ c, m.getLast? = some c → c ≠ 97
structure Mark (K : Nat) (m : List Nat) : Prop where
  ls : Ls K m
  na : Na m
  ne : m ≠ []
theorem Ls.tail {K c : Nat} {m : List Nat} (h : Ls K (c :: m)) : Ls K m := fun x hx => h x (List.mem_cons_of_mem _ hx)
theorem Ls.head {K c : Nat} {m : List Nat} (h : Ls K (c :: m)) : 97 ≤ c ∧ c < 97 + K := h c List.mem_cons_self
theorem Ls.nil (K : Nat) : Ls K [] := fun _ h => nomatch h
theorem Ls.app {K : Nat} {a b : List Nat} (h : Ls K a) (h' : Ls K b) : Ls K (a ++ b) := fun c hc => (List.mem_append.mp hc).elim (h c) (h' c)
theorem Ls.mono {K L : Nat} {m : List Nat} (h : Ls K m) (hl : K ≤ L) : Ls L m := fun c hc => ⟨(h c hc).1, by have := (h c hc).2; omega⟩
theorem Ls.sub {K : Nat} {a b : List Nat} (h : Ls K b) (s : ∀ c ∈ a, c ∈ b) : Ls K a := fun c hc => h c (s c hc)
theorem Na.nil : Na [] := fun c h => by simp at h
theorem Na.tail {c : Nat} {m : List Nat} (h : Na (c :: m)) : Na m := fun x hx => by
  cases m with
  | nil => simp at hx
  | cons d r => exact h x (by rw [List.getLast?_cons_cons]; exact hx)
theorem Na.app {a b : List Nat} (h : Na b) (hb : b ≠ []) : Na (a ++ b) := fun c hc => by
  rw [List.getLast?_append] at hc
  cases e : b.getLast? with
  | none => exact absurd (List.getLast?_eq_none_iff.mp e) hb
  | some d => rw [e] at hc; exact h c (by rw [e]; exact hc)
theorem Na.one {c : Nat} (h : c ≠ 97) : Na [c] := fun d hd => by simp at hd; omega
theorem val_zero (K : Nat) (m : List Nat) : val K m 0 = 0 := by cases m <;> rfl
theorem val_nil (K n : Nat) : val K [] n = 0 := by cases n <;> rfl
theorem val_cons (K c n : Nat) (m : List Nat) : val K (c :: m) (n + 1) = (c - 97) * K ^ n + val K m n := rfl
theorem val_lt {K : Nat} (hK : 0 < K) : ∀ {m : List Nat} (n : Nat), Ls K m → val K m n < K ^ n
  | m, 0, _ => by rw [val_zero]; exact Nat.one_pos
  | [], n + 1, _ => by rw [val_nil]; exact Nat.pow_pos hK
  | c :: m, n + 1, h => by
    have ih := val_lt hK n h.tail
    have hc := h.head
    rw [val_cons, Nat.pow_succ]
    have h1 : (c - 97) * K ^ n + K ^ n ≤ K ^ n * K := by
      have : (c - 97 + 1) * K ^ n ≤ K * K ^ n := Nat.mul_le_mul_right _ (by omega)
      rw [Nat.add_mul, Nat.one_mul, Nat.mul_comm K] at this
      exact this
    omega
theorem val_pos {K : Nat} (hK : 0 < K) : ∀ {m : List Nat} (n : Nat), Ls K m → Na m → m ≠ [] → m.length ≤ n → 0 < val K m n
  | [], _, _, _, h, _ => absurd rfl h
  | c :: m, 0, _, _, _, h => by simp at h
  | [c], n + 1, h, hn, _, _ => by
    have h1 := h.head
    have h2 := hn c (by simp)
    rw [val_cons, val_nil]
    have : 0 < (c - 97) * K ^ n := Nat.mul_pos (by omega) (Nat.pow_pos hK)
    omega
  | c :: d :: m, n + 1, h, hn, _, hl => by
    have := val_pos hK n h.tail hn.tail (List.cons_ne_nil _ _) (by simpa using hl)
    rw [val_cons]; omega
theorem lt_parts {a b x y P : Nat} (hx : x < P) (hy : y < P) : a * P + x < b * P + y ↔ a < b ∨ a = b ∧ x < y := by
  constructor
  · intro h
    rcases Nat.lt_trichotomy a b with g | g | g
    · exact .inl g
    · subst g; exact .inr ⟨rfl, by omega⟩
    · have : (b + 1) * P ≤ a * P := Nat.mul_le_mul_right _ g
      rw [Nat.add_mul] at this; omega
  · rintro (g | ⟨rfl, g⟩)
    · have : (a + 1) * P ≤ b * P := Nat.mul_le_mul_right _ g
      rw [Nat.add_mul] at this; omega
    · omega
theorem eq_parts {a b x y P : Nat} (hx : x < P) (hy : y < P) : a * P + x = b * P + y ↔ a = b ∧ x = y := by
  constructor
  · intro h
    rcases Nat.lt_trichotomy a b with g | g | g
    · have : (a + 1) * P ≤ b * P := Nat.mul_le_mul_right _ g
      rw [Nat.add_mul] at this; omega
    · subst g; exact ⟨rfl, by omega⟩
    · have : (b + 1) * P ≤ a * P := Nat.mul_le_mul_right _ g
      rw [Nat.add_mul] at this; omega
  · rintro ⟨rfl, rfl⟩; rfl
theorem sub97 {c d : Nat} (hc : 97 ≤ c) (hd : 97 ≤ d) : (c - 97 < d - 97 ↔ c < d) ∧ (c - 97 = d - 97 ↔ c = d) := ⟨by omega, by omega⟩
theorem lt_val {K : Nat} (hK : 0 < K) : ∀ {a b : List Nat} (n : Nat), Ls K a → Ls K b → Na a → Na b → a.length ≤ n → b.length ≤ n → (a < b ↔ val K a n < val K b n)
  | [], [], n, _, _, _, _, _, _ => by rw [val_nil]; simp
  | [], c :: b, n, _, hb, _, nb, _, lb => by
    rw [val_nil]
    have := val_pos hK n hb nb (List.cons_ne_nil _ _) lb
    simp [this]
  | c :: a, [], n, _, _, _, _, _, _ => by rw [val_nil]; simp
  | c :: a, d :: b, 0, _, _, _, _, la, _ => by simp at la
  | c :: a, d :: b, n + 1, ha, hb, na, nb, la, lb => by
    have ih := lt_val hK n ha.tail hb.tail na.tail nb.tail (by simpa using la) (by simpa using lb)
    rw [List.cons_lt_cons_iff, val_cons, val_cons, lt_parts (val_lt hK n ha.tail) (val_lt hK n hb.tail), (sub97 ha.head.1 hb.head.1).1, (sub97 ha.head.1 hb.head.1).2, ih]
theorem low_val {K : Nat} (hK : 0 < K) : ∀ {l x : List Nat} (n : Nat), Ls K l → Ls K x → Na x → x.length = n → (l < x ↔ val K l n < val K x n)
  | l, [], n, _, _, _, e => by
    obtain rfl : n = 0 := by simpa using e.symm
    rw [val_zero, val_zero]; simp
  | [], c :: x, n, _, hx, nx, e => by
    rw [val_nil]
    have := val_pos hK n hx nx (List.cons_ne_nil _ _) (Nat.le_of_eq e)
    simp [this]
  | d :: l, c :: x, 0, _, _, _, e => by simp at e
  | d :: l, c :: x, n + 1, hl, hx, nx, e => by
    have ih := low_val hK n hl.tail hx.tail nx.tail (by simpa using e)
    rw [List.cons_lt_cons_iff, val_cons, val_cons, lt_parts (val_lt hK n hl.tail) (val_lt hK n hx.tail), (sub97 hl.head.1 hx.head.1).1, (sub97 hl.head.1 hx.head.1).2, ih]
theorem high_val {K : Nat} (hK : 0 < K) : ∀ {x h : List Nat} (n : Nat), Ls K h → Ls K x → Na h → x.length = n → (x < h ↔ val K x n < val K h n ∨ (val K x n = val K h n ∧ n < h.length))
  | [], h, n, _, _, _, e => by
    obtain rfl : n = 0 := by simpa using e.symm
    rw [val_zero, val_zero]
    cases h <;> simp
  | c :: x, [], n, _, _, _, _ => by rw [val_nil]; simp
  | c :: x, d :: h, 0, _, _, _, e => by simp at e
  | c :: x, d :: h, n + 1, hh, hx, nh, e => by
    have ih := high_val hK n hh.tail hx.tail nh.tail (by simpa using e)
    have v1 := val_lt hK n hx.tail
    have v2 := val_lt hK n hh.tail
    rw [List.cons_lt_cons_iff, val_cons, val_cons, lt_parts v1 v2, eq_parts v1 v2, (sub97 hx.head.1 hh.head.1).1, (sub97 hx.head.1 hh.head.1).2, ih, List.length_cons, Nat.add_lt_add_iff_right]
    constructor
    · rintro (g | ⟨g, g' | g'⟩)
      · exact .inl (.inl g)
      · exact .inl (.inr ⟨g, g'⟩)
      · exact .inr ⟨⟨g, g'.1⟩, g'.2⟩
    · rintro ((g | g) | ⟨⟨g, g'⟩, g2⟩)
      · exact .inl g
      · exact .inr ⟨g.1, .inl g.2⟩
      · exact .inr ⟨g, .inr ⟨g', g2⟩⟩
def fig (m : List Nat) (i : Nat) : Nat := match m[i]? with | some c => c - 97 | none => 0
theorem val_succ (K : Nat) : ∀ (m : List Nat) (n : Nat), val K m (n + 1) = val K m n * K + fig m n
  | [], n => by rw [val_nil, val_nil]; simp [fig]
  | c :: m, 0 => by rw [val_cons, val_zero, val_zero]; simp [fig]
  | c :: m, n + 1 => by
    have ih := val_succ K m n
    rw [val_cons, ih, val_cons, Nat.pow_succ, Nat.add_mul, Nat.mul_assoc, ← Nat.add_assoc]
    simp [fig]
def low (K r : Nat) : Nat → List Nat
  | 0 => []
  | n + 1 => (97 + r / K ^ n % K) :: low K r n
theorem low_length (K r : Nat) : ∀ n, (low K r n).length = n
  | 0 => rfl
  | n + 1 => by rw [low, List.length_cons, low_length K r n]
theorem low_ls {K : Nat} (hK : 0 < K) (r : Nat) : ∀ n, Ls K (low K r n)
  | 0 => Ls.nil K
  | n + 1 => fun c hc => by
    rcases List.mem_cons.mp hc with rfl | hc
    · have := Nat.mod_lt (r / K ^ n) hK; omega
    · exact low_ls hK r n c hc
theorem low_val_eq {K : Nat} (hK : 0 < K) (r : Nat) : ∀ n, val K (low K r n) n = r % K ^ n
  | 0 => by rw [val_zero, Nat.pow_zero, Nat.mod_one]
  | n + 1 => by
    rw [low, val_cons, low_val_eq hK r n, Nat.pow_succ, Nat.mod_mul, Nat.add_comm, Nat.mul_comm, Nat.add_sub_cancel_left]
def cutA (m : List Nat) : List Nat := (m.reverse.dropWhile (fun c => [97].contains c)).reverse
theorem cutA_snoc_a (m : List Nat) : cutA (m ++ [97]) = cutA m := by
  unfold cutA
  rw [List.reverse_append]
  show (List.dropWhile _ (97 :: m.reverse)).reverse = _
  rw [List.dropWhile_cons_of_pos (by decide)]
theorem cutA_na {m : List Nat} (h : Na m) : cutA m = m := by
  unfold cutA
  cases e : m.reverse with
  | nil => rw [List.dropWhile_nil, ← e, List.reverse_reverse]
  | cons c r =>
    have hc : c ≠ 97 := h c (by rw [List.getLast?_eq_head?_reverse, e]; rfl)
    rw [List.dropWhile_cons_of_neg (by simp [hc]), ← e, List.reverse_reverse]
theorem cutA_spec (m : List Nat) : ∃ k, m = cutA m ++ List.replicate k 97 ∧ Na (cutA m) := by
  obtain ⟨n, hn⟩ : ∃ n, m.length = n := ⟨_, rfl⟩
  induction n generalizing m with
  | zero =>
    obtain rfl : m = [] := List.length_eq_zero_iff.mp hn
    exact ⟨0, rfl, Na.nil⟩
  | succ n ih =>
    by_cases h : Na m
    · exact ⟨0, by rw [cutA_na h]; simp, by rw [cutA_na h]; exact h⟩
    · obtain ⟨c, hc, e⟩ : ∃ c, m.getLast? = some c ∧ c = 97 := by
        apply Classical.byContradiction
        intro q
        exact h fun c hc e => q ⟨c, hc, e⟩
      subst e
      obtain ⟨r, rfl⟩ := List.getLast?_eq_some_iff.mp hc
      obtain ⟨k, e1, e2⟩ := ih r (by simpa using hn)
      rw [cutA_snoc_a]
      refine ⟨k + 1, ?_, e2⟩
      rw [List.replicate_succ', ← List.append_assoc, ← e1]
theorem val_app_a (K : Nat) : ∀ (m : List Nat) (k n : Nat), val K (m ++ List.replicate k 97) n = val K m n
  | m, k, 0 => by rw [val_zero, val_zero]
  | [], 0, n + 1 => rfl
  | [], k + 1, n + 1 => by
    rw [List.nil_append, List.replicate_succ, val_cons]
    have := val_app_a K [] k n
    rw [List.nil_append] at this
    rw [this, val_nil, val_nil]; simp
  | c :: m, k, n + 1 => by rw [List.cons_append, val_cons, val_cons, val_app_a K m k n]
theorem cutA_val (K : Nat) (m : List Nat) (n : Nat) : val K (cutA m) n = val K m n := by
  obtain ⟨k, e, _⟩ := cutA_spec m
  have h : val K m n = val K (cutA m ++ List.replicate k 97) n := by rw [← e]
  rw [h, val_app_a]
theorem cutA_na' (m : List Nat) : Na (cutA m) := by
  obtain ⟨k, _, h⟩ := cutA_spec m
  exact h
theorem cutA_len (m : List Nat) : (cutA m).length ≤ m.length := by
  obtain ⟨k, e, _⟩ := cutA_spec m
  have h : m.length = (cutA m ++ List.replicate k 97).length := by rw [← e]
  rw [h, List.length_append]; omega
theorem cutA_sub (m : List Nat) : ∀ c ∈ cutA m, c ∈ m := fun c hc => by
  obtain ⟨k, e, _⟩ := cutA_spec m
  rw [e]; exact List.mem_append_left _ hc
def mk (K r n : Nat) : List Nat := cutA (low K r n)
theorem mk_val {K : Nat} (hK : 0 < K) {r n : Nat} (h : r < K ^ n) : val K (mk K r n) n = r := by
  rw [mk, cutA_val, low_val_eq hK, Nat.mod_eq_of_lt h]
theorem mk_len (K r n : Nat) : (mk K r n).length ≤ n := by
  have := cutA_len (low K r n); rw [low_length] at this; exact this
theorem mk_ls {K : Nat} (hK : 0 < K) (r n : Nat) : Ls K (mk K r n) := (low_ls hK r n).sub (cutA_sub _)
theorem mk_na (K r n : Nat) : Na (mk K r n) := cutA_na' _
theorem mk_ne {K : Nat} (hK : 0 < K) {r n : Nat} (h0 : 0 < r) (h : r < K ^ n) : mk K r n ≠ [] := fun e => by
  have := mk_val hK h
  rw [e, val_nil] at this; omega
theorem mk_mark {K : Nat} (hK : 0 < K) {r n : Nat} (h0 : 0 < r) (h : r < K ^ n) : Mark K (mk K r n) := ⟨mk_ls hK r n, mk_na K r n, mk_ne hK h0 h⟩
end MM
namespace MM
def endsL (K h j : Nat) : List Nat := ((List.range (K - 1)).filter (fun i => decide (i % h = j))).map (98 + ·)
def endsFrom (K h j n : Nat) : List Nat := ((List.range' (n - 1) (K - n)).filter (fun i => decide (i % h = j))).map (98 + ·)
theorem endsFrom_one (K h j : Nat) : endsFrom K h j 1 = endsL K h j := by
  unfold endsFrom endsL
  rw [List.range_eq_range']
theorem endsFrom_stop {K h j n : Nat} (hn : K ≤ n) : endsFrom K h j n = [] := by
  unfold endsFrom
  have : K - n = 0 := by omega
  rw [this]; rfl
theorem endsFrom_skip {K h j n : Nat} (h1 : 1 ≤ n) (hK : n < K) (hne : (n - 1) % h ≠ j) : endsFrom K h j n = endsFrom K h j (n + 1) := by
  unfold endsFrom
  obtain ⟨d, hd⟩ : ∃ d, K - n = d + 1 := ⟨K - n - 1, by omega⟩
  have e2 : K - (n + 1) = d := by omega
  have e3 : n + 1 - 1 = n - 1 + 1 := by omega
  rw [hd, e2, e3, List.range'_succ, List.filter_cons]
  simp [hne]
theorem endsFrom_take {K h j n : Nat} (h1 : 1 ≤ n) (hK : n < K) (he : (n - 1) % h = j) : endsFrom K h j n = (97 + n) :: endsFrom K h j (n + 1) := by
  unfold endsFrom
  obtain ⟨d, hd⟩ : ∃ d, K - n = d + 1 := ⟨K - n - 1, by omega⟩
  have e2 : K - (n + 1) = d := by omega
  have e3 : n + 1 - 1 = n - 1 + 1 := by omega
  rw [hd, e2, e3, List.range'_succ, List.filter_cons]
  simp [he]; omega
theorem endsFrom_skips {K h j : Nat} : ∀ (m n : Nat), 1 ≤ n → (∀ i, i < m → (n - 1 + i) % h ≠ j) → endsFrom K h j n = endsFrom K h j (n + m)
  | 0, n, _, _ => rfl
  | m + 1, n, h1, hne => by
    by_cases hK : n < K
    · rw [endsFrom_skip h1 hK (by have := hne 0 (by omega); simpa using this), endsFrom_skips m (n + 1) (by omega) (fun i hi => by have := hne (i + 1) (by omega); rwa [show n - 1 + (i + 1) = n + 1 - 1 + i by omega] at this)]
      congr 1; omega
    · rw [endsFrom_stop (by omega), endsFrom_stop (by omega)]
theorem mod_add_ne {a h i : Nat} (hi : 0 < i) (hh : i < h) : (a + i) % h ≠ a % h := by
  intro e
  have h0 : 0 < h := by omega
  have e1 := Nat.div_add_mod a h
  have e2 := Nat.div_add_mod (a + i) h
  rw [e] at e2
  have e3 : h * ((a + i) / h) = h * (a / h) + i := by omega
  rcases Nat.lt_or_ge (a / h) ((a + i) / h) with hl | hl
  · have : h * (a / h + 1) ≤ h * ((a + i) / h) := Nat.mul_le_mul_left h hl
    rw [Nat.mul_add] at this; omega
  · have : h * ((a + i) / h) ≤ h * (a / h) := Nat.mul_le_mul_left h hl
    omega
theorem endsFrom_step {K h j n : Nat} (h0 : 0 < h) (h1 : 1 ≤ n) (hK : n < K) (he : (n - 1) % h = j) : endsFrom K h j n = (97 + n) :: endsFrom K h j (n + h) := by
  rw [endsFrom_take h1 hK he, endsFrom_skips (h - 1) (n + 1) (by omega) (fun i hi => by
    have := mod_add_ne (a := n - 1) (h := h) (i := i + 1) (by omega) (by omega)
    rw [he] at this
    rwa [show n + 1 - 1 + i = n - 1 + (i + 1) by omega])]
  congr 2; omega
theorem endsFrom_start {K h j : Nat} (hj : j < h) : endsFrom K h j (1 + j) = endsL K h j := by
  rw [← endsFrom_one, Nat.add_comm 1 j, Nat.add_comm j 1]
  exact (endsFrom_skips j 1 (by omega) (fun i hi => by
    show (0 + i) % h ≠ j
    rw [Nat.zero_add, Nat.mod_eq_of_lt (by omega)]; omega)).symm
theorem endsL_ne {K h j : Nat} (hj : j < h) (hh : h + 1 ≤ K) : endsL K h j ≠ [] := by
  rw [← endsFrom_start hj, endsFrom_step (by omega) (by omega) (by omega) (by rw [Nat.add_comm, Nat.add_sub_cancel]; exact Nat.mod_eq_of_lt hj)]
  exact List.cons_ne_nil _ _
theorem endsL_mem {K h j c : Nat} : c ∈ endsL K h j ↔ ∃ i, i < K - 1 ∧ i % h = j ∧ c = 98 + i := by
  unfold endsL
  simp only [List.mem_map, List.mem_filter, List.mem_range, decide_eq_true_eq]
  constructor
  · rintro ⟨a, ⟨h1, h2⟩, h3⟩; exact ⟨a, h1, h2, h3.symm⟩
  · rintro ⟨a, h1, h2, h3⟩; exact ⟨a, ⟨h1, h2⟩, h3.symm⟩
end MM
namespace MM
structure Ends (L : Nat) (es : List Nat) : Prop where
  up : es.Pairwise (· < ·)
  lo : ∀ e ∈ es, 98 ≤ e
  hi : ∀ e ∈ es, e < 97 + L
  ne : es ≠ []
def cnt (es : List Nat) (x : Nat) : Nat := (es.filter (fun e => decide (e < x))).length
def ob (L : Nat) (es : List Nat) (N : Nat) : Nat := N / L * es.length + cnt es (97 + N % L)
def ow (L : Nat) (es : List Nat) (w : Nat) : Bool := decide (97 + w % L ∈ es)
def nth (L : Nat) (es : List Nat) (p : Nat) : Nat := p / es.length * L + (es.getD (p % es.length) 0 - 97)
theorem cnt_succ {es : List Nat} (h : es.Pairwise (· < ·)) (x : Nat) : cnt es (x + 1) = cnt es x + (if x ∈ es then 1 else 0) := by
  induction es with
  | nil => rfl
  | cons e r ih =>
    obtain ⟨h1, h2⟩ := List.pairwise_cons.mp h
    have ih := ih h2
    unfold cnt at ih ⊢
    rw [List.filter_cons, List.filter_cons]
    by_cases a : e < x
    · have m : x ∈ e :: r ↔ x ∈ r := by rw [List.mem_cons]; constructor
                                        · rintro (rfl | z)
                                          · omega
                                          · exact z
                                        · exact .inr
      rw [if_pos (by simp; omega), if_pos (by simpa using a), List.length_cons, List.length_cons, ih]
      simp only [m]; omega
    · by_cases b : e = x
      · subst b
        rw [if_pos (by simp), if_neg (by simp)]
        have no : e ∉ r := fun z => by have := h1 e z; omega
        rw [if_neg no] at ih
        rw [List.length_cons, ih, if_pos List.mem_cons_self]
      · have no : x ∉ r := fun z => by have := h1 x z; omega
        rw [if_neg (by simp; omega), if_neg (by simpa using a), ih, if_neg no, if_neg (by rw [List.mem_cons]; rintro (z | z); omega; exact no z)]
theorem cnt_low {es : List Nat} (h : ∀ e ∈ es, 98 ≤ e) : cnt es 97 = 0 := by
  unfold cnt
  rw [List.length_eq_zero_iff, List.filter_eq_nil_iff]
  intro e he; have := h e he; simp only [decide_eq_true_eq]; omega
theorem cnt_all {es : List Nat} {x : Nat} (h : ∀ e ∈ es, e < x) : cnt es x = es.length := by
  unfold cnt
  rw [List.filter_eq_self.mpr (fun e he => by simpa using h e he)]
theorem ob_succ {L : Nat} {es : List Nat} (hL : 0 < L) (E : Ends L es) (w : Nat) : ob L es (w + 1) = ob L es w + (if ow L es w = true then 1 else 0) := by
  unfold ob ow
  have hm := Nat.mod_lt w hL
  simp only [decide_eq_true_eq]
  by_cases h : w % L + 1 < L
  · have e1 : (w + 1) / L = w / L := by rw [Nat.add_div hL]; have : 1 % L = 1 := Nat.mod_eq_of_lt (by omega); rw [this, Nat.div_eq_of_lt (show 1 < L by omega), if_neg (by omega)]; rfl
    have e2 : (w + 1) % L = w % L + 1 := by rw [Nat.add_mod, Nat.mod_eq_of_lt (show 1 < L by omega)]; exact Nat.mod_eq_of_lt h
    rw [e1, e2, show 97 + (w % L + 1) = 97 + w % L + 1 by omega, cnt_succ E.up, Nat.add_assoc]
  · have hl : w % L + 1 = L := by omega
    have hd := Nat.div_add_mod w L
    have e0 : w + 1 = L * (w / L + 1) := by rw [Nat.mul_add]; omega
    have e1 : (w + 1) / L = w / L + 1 := by rw [e0, Nat.mul_div_cancel_left _ hL]
    have e2 : (w + 1) % L = 0 := by rw [e0, Nat.mul_mod_right]
    have e3 := cnt_succ E.up (97 + w % L)
    rw [show 97 + w % L + 1 = 97 + L by omega, cnt_all E.hi] at e3
    rw [e1, e2, Nat.add_zero, cnt_low E.lo, Nat.add_mul, Nat.one_mul, e3]; omega
theorem cnt_at {es : List Nat} (h : es.Pairwise (· < ·)) : ∀ {r : Nat} {x : Nat}, es[r]? = some x → cnt es x = r := by
  induction es with
  | nil => intro r x e; simp at e
  | cons e t ih =>
    intro r x hx
    obtain ⟨h1, h2⟩ := List.pairwise_cons.mp h
    cases r with
    | zero =>
      obtain rfl : e = x := by simpa using hx
      unfold cnt
      rw [List.length_eq_zero_iff, List.filter_eq_nil_iff]
      intro y hy
      rcases List.mem_cons.mp hy with rfl | hy
      · simp
      · have := h1 y hy; simp; omega
    | succ r =>
      have hx' : t[r]? = some x := by simpa using hx
      have := h1 x (List.mem_of_getElem? hx')
      have i2 := ih h2 hx'
      unfold cnt at i2 ⊢
      rw [List.filter_cons_of_pos (by simpa using this), List.length_cons, i2]
theorem nth_ob {L : Nat} {es : List Nat} (hL : 0 < L) (E : Ends L es) {w : Nat} (h : ow L es w = true) : nth L es (ob L es w) = w := by
  have hm : 97 + w % L ∈ es := of_decide_eq_true h
  obtain ⟨r, hr, e⟩ := List.getElem_of_mem hm
  have hx : es[r]? = some (97 + w % L) := by rw [List.getElem?_eq_getElem hr, e]
  have c := cnt_at E.up hx
  unfold nth ob
  rw [c]
  have e1 : (w / L * es.length + r) / es.length = w / L := by rw [Nat.mul_comm, Nat.mul_add_div (by omega), Nat.div_eq_of_lt hr]; rfl
  have e2 : (w / L * es.length + r) % es.length = r := by rw [Nat.mul_comm, Nat.mul_add_mod, Nat.mod_eq_of_lt hr]
  rw [e1, e2, List.getD_eq_getElem?_getD, hx]
  have := Nat.div_add_mod w L
  rw [Nat.mul_comm] at this
  simp only [Option.getD_some]; omega
theorem ob_mono {L : Nat} {es : List Nat} (hL : 0 < L) (E : Ends L es) {a : Nat} : ∀ {b : Nat}, a ≤ b → ob L es a ≤ ob L es b
  | 0, h => by obtain rfl : a = 0 := by omega
               exact Nat.le_refl _
  | b + 1, h => by
    by_cases e : a = b + 1
    · rw [e]; exact Nat.le_refl _
    · have := ob_mono hL E (a := a) (b := b) (by omega)
      rw [ob_succ hL E]; omega
theorem ends_ok {K h j : Nat} (hj : j < h) (hh : h + 1 ≤ K) : Ends K (endsL K h j) where
  up := by
    unfold endsL
    rw [List.pairwise_map]
    refine List.Pairwise.imp ?_ ((List.pairwise_lt_range (n := K - 1)).filter _)
    intro a b hab; omega
  lo := fun e he => by obtain ⟨i, _, _, rfl⟩ := endsL_mem.mp he; omega
  hi := fun e he => by obtain ⟨i, hi, _, rfl⟩ := endsL_mem.mp he; omega
  ne := endsL_ne hj hh
theorem low_snoc {L : Nat} (hL : 0 < L) {i : Nat} (hi : i < L) (q : Nat) : ∀ n, low L (q * L + i) (n + 1) = low L q n ++ [97 + i]
  | 0 => by
    show [97 + (q * L + i) / L ^ 0 % L] = [97 + i]
    rw [Nat.pow_zero, Nat.div_one, Nat.mul_comm, Nat.mul_add_mod, Nat.mod_eq_of_lt hi]
  | n + 1 => by
    rw [low, low_snoc hL hi q n, low, List.cons_append]
    congr 2
    rw [Nat.pow_succ, Nat.mul_comm (L ^ n), ← Nat.div_div_eq_div_mul]
    congr 1
    have : (q * L + i) / L = q := by rw [Nat.mul_comm, Nat.mul_add_div hL, Nat.div_eq_of_lt hi]; rfl
    rw [this]
theorem low_last {L w n : Nat} (hL : 0 < L) : (low L w (n + 1)).getLast? = some (97 + w % L) := by
  have hd := Nat.div_add_mod w L
  have e : w = w / L * L + w % L := by rw [Nat.mul_comm]; omega
  rw [e, low_snoc hL (Nat.mod_lt w hL)]
  simp [Nat.mod_eq_of_lt (Nat.mod_lt w hL)]
theorem mk_low {L w n : Nat} (hL : 0 < L) (h : w % L ≠ 0) : mk L w (n + 1) = low L w (n + 1) := by
  unfold mk
  refine cutA_na fun c hc => ?_
  rw [low_last hL] at hc
  have := Option.some.inj hc; omega
end MM
namespace MM
theorem nth_mod {L : Nat} {es : List Nat} (E : Ends L es) (p : Nat) : nth L es p % L ≠ 0 := by
  have hp : 0 < es.length := List.length_pos_iff.mpr E.ne
  have hm := Nat.mod_lt p hp
  have hx : es[p % es.length]? = some es[p % es.length] := List.getElem?_eq_getElem hm
  have h1 := E.lo _ (List.mem_of_getElem? hx)
  have h2 := E.hi _ (List.mem_of_getElem? hx)
  unfold nth
  rw [List.getD_eq_getElem?_getD, hx, Nat.mul_comm, Nat.mul_add_mod, Option.getD_some, Nat.mod_eq_of_lt (by omega)]
  omega
end MM
namespace MM
theorem ob_nth {L : Nat} {es : List Nat} (hL : 0 < L) (E : Ends L es) (p : Nat) : ob L es (nth L es p) = p ∧ ow L es (nth L es p) = true := by
  have hp : 0 < es.length := List.length_pos_iff.mpr E.ne
  have hm := Nat.mod_lt p hp
  have hx : es[p % es.length]? = some es[p % es.length] := List.getElem?_eq_getElem hm
  have hmem := List.mem_of_getElem? hx
  have h1 := E.lo _ hmem
  have h2 := E.hi _ hmem
  have hc := cnt_at E.up hx
  generalize es[p % es.length] = e at *
  have e0 : nth L es p = p / es.length * L + (e - 97) := by unfold nth; rw [List.getD_eq_getElem?_getD, hx]; rfl
  have e1 : nth L es p / L = p / es.length := by rw [e0, Nat.mul_comm, Nat.mul_add_div hL, Nat.div_eq_of_lt (show e - 97 < L by omega)]; rfl
  have e2 : nth L es p % L = e - 97 := by rw [e0, Nat.mul_comm, Nat.mul_add_mod, Nat.mod_eq_of_lt (by omega)]
  constructor
  · unfold ob
    rw [e1, e2, show 97 + (e - 97) = e by omega, hc, Nat.mul_comm]
    exact Nat.div_add_mod p es.length
  · unfold ow
    rw [e2, show 97 + (e - 97) = e by omega]
    exact decide_eq_true hmem
theorem nth_in {L : Nat} {es : List Nat} (hL : 0 < L) (E : Ends L es) {A B p : Nat} (h1 : ob L es A ≤ p) (h2 : p < ob L es B) : A ≤ nth L es p ∧ nth L es p < B := by
  obtain ⟨o1, o2⟩ := ob_nth hL E p
  constructor
  · by_cases z : A ≤ nth L es p
    · exact z
    · have := ob_mono hL E (show nth L es p + 1 ≤ A by omega)
      rw [ob_succ hL E, if_pos o2, o1] at this
      omega
  · by_cases z : nth L es p < B
    · exact z
    · have := ob_mono hL E (show B ≤ nth L es p by omega)
      omega
end MM
set_option Elab.async false
set_option linter.all false
set_option maxRecDepth 100000
set_option maxHeartbeats 1000000
namespace L2
open PySem PySem.Spec PyProof.Rows
abbrev rIxLast : R2 := fun x y H Q => ∃ (l : List Nat) (c : Nat), x = .str (txt l) ∧ y = .int (-1) ∧ l.length ≤ sizeLine ∧ l.getLast? = some c ∧ Q (.str (txt [c])) H
theorem atI_end {α : Type} {xs : List α} {v : α} (h : xs.getLast? = some v) : atI xs (-1) = some v := by
  have hl : 0 < xs.length := by
    cases xs with
    | nil => simp at h
    | cons a r => simp
  unfold atI ixN
  rw [if_neg (by decide), if_pos (by omega)]
  rw [List.getLast?_eq_getElem?] at h
  show xs[(-1 + (xs.length : Int)).toNat]? = some v
  rw [show (-1 + (xs.length : Int)).toNat = xs.length - 1 by omega]
  exact h
section
variable {X : Cx}
theorem ix_last : IxR X rIxLast := by
  intro value slice pins s σ H x y v u Q I rx ry h hs
  obtain ⟨l, c, rfl, rfl, hz, e, q⟩ := h
  exact ix_str value slice pins s σ H _ _ v u Q I rx ry ⟨_, _, c, rfl, rfl, by rw [txt_len]; exact hz, by rw [codes_txt]; exact atI_end e, q⟩ hs
end
abbrev rMinL2S (K : PySem.W.Frag) : List V → Hp → VK → Prop := fun xs H Q => ∃ p, ∃ a b : List Nat, xs = [.ref p] ∧ SqL K H p [.str (txt a), .str (txt b)] ∧ Q (.str (txt (if b < a then b else a))) H
abbrev rMaxL2S (K : PySem.W.Frag) : List V → Hp → VK → Prop := fun xs H Q => ∃ p, ∃ a b : List Nat, xs = [.ref p] ∧ SqL K H p [.str (txt a), .str (txt b)] ∧ Q (.str (txt (if a < b then b else a))) H
section
variable {X : Cx}
theorem call_minL2S (hc : X.calm = true) : CallR X (.builtin "min") (rMinL2S X.K) := by
  intro pins s σ H xs us Q I r h
  obtain ⟨p, a, b, rfl, hq, q⟩ := h
  obtain ⟨u, rfl, ru⟩ := vals1 r
  obtain rfl : u = Value.ref p := ru
  obtain ⟨its, rv, pl, hz⟩ := I.list hq
  obtain ⟨u1, u2, rfl, ⟨t, rfl⟩, ⟨t', rfl⟩⟩ := vals2 rv
  have hne : p ≠ s.heap.objs.size := Nat.ne_of_lt (by obtain ⟨o, e, _⟩ := pl.isList; exact Heap.lt_size e)
  have cmp : CmpOf X.prog X.w X.A.in1 .Lt (fun i v => (#[Value.str (txt a) t, .str (txt b) t'])[i]? = some v) (fun i j => decide (twoOf a b i < twoOf a b j)) := fun i j vi vj s' Q' E' hi hj hq => by
    obtain ⟨t1, rfl⟩ := two_at hi
    obtain ⟨t2, rfl⟩ := two_at hj
    exact (lt_str (by rw [codes_txt, codes_txt]; exact hq) : wpAny (model X.prog X.w) X.A.in1 (compareOp .Lt (.str (txt (twoOf a b i)) t1) (.str (txt (twoOf a b j)) t2)) Q' E' s')
  refine call_min_walk (wpAny_pyIter_list pl.isList ?_)
  refine ⟨s.heap.objs.size, [s.heap.objs.size, p], [s.heap.objs.size], _, _, _, _, rfl, Walks.list (A := X.A.in1) (show X.A.in1.handled = none from I.ok.hd hc) s.heap.objs.size p hne #[.str (txt a) t, .str (txt b) t'],
    ⟨⟨_, Heap.get?_push_size _ rfl, rfl, rfl⟩, pl.isList.at fun o e => Heap.get?_push_of_some _ e⟩, fun c hc => ?_, Nat.zero_lt_two, cmp, fun v h' tk hP hk => ?_⟩
  · show c < (s.heap.push _).objs.size
    rw [Heap.size_push]
    rcases List.mem_cons.mp hc with z | z
    · rw [z]; exact Nat.lt_succ_self _
    · rw [List.mem_singleton.mp z]; exact Nat.lt_succ_of_lt (by obtain ⟨o, e, _⟩ := pl.isList; exact Heap.lt_size e)
  · have old : ∀ c o, s.heap.get? c = some o → h'.get? c = some o := fun c o e => by
      refine hk c o (fun hm => ?_) (Heap.get?_push_of_some _ e)
      have lt := Heap.lt_size e
      rw [List.mem_singleton.mp hm] at lt
      exact absurd lt (Nat.lt_irrefl _)
    refine ⟨_, H, I.kept old, ?_, q⟩
    have hP' : (#[Value.str (txt a) t, .str (txt b) t'])[argBest (fun i j => decide (twoOf a b i < twoOf a b j)) 1]? = some v := hP
    by_cases hba : b < a
    · have e : argBest (fun i j => decide (twoOf a b i < twoOf a b j)) 1 = 1 := by simp [argBest, twoOf, hba]
      rw [e] at hP'; rw [if_pos hba]; exact ⟨t', by simpa using hP'.symm⟩
    · have e : argBest (fun i j => decide (twoOf a b i < twoOf a b j)) 1 = 0 := by simp [argBest, twoOf, hba]
      rw [e] at hP'; rw [if_neg hba]; exact ⟨t, by simpa using hP'.symm⟩
theorem call_maxL2S (hc : X.calm = true) : CallR X (.builtin "max") (rMaxL2S X.K) := by
  intro pins s σ H xs us Q I r h
  obtain ⟨p, a, b, rfl, hq, q⟩ := h
  obtain ⟨u, rfl, ru⟩ := vals1 r
  obtain rfl : u = Value.ref p := ru
  obtain ⟨its, rv, pl, hz⟩ := I.list hq
  obtain ⟨u1, u2, rfl, ⟨t, rfl⟩, ⟨t', rfl⟩⟩ := vals2 rv
  have hne : p ≠ s.heap.objs.size := Nat.ne_of_lt (by obtain ⟨o, e, _⟩ := pl.isList; exact Heap.lt_size e)
  have cmp : CmpOf X.prog X.w X.A.in1 .Gt (fun i v => (#[Value.str (txt a) t, .str (txt b) t'])[i]? = some v) (fun i j => decide (twoOf a b j < twoOf a b i)) := fun i j vi vj s' Q' E' hi hj hq => by
    obtain ⟨t1, rfl⟩ := two_at hi
    obtain ⟨t2, rfl⟩ := two_at hj
    exact (PySem.P.gt_str (by rw [codes_txt, codes_txt]; exact hq) : wpAny (model X.prog X.w) X.A.in1 (compareOp .Gt (.str (txt (twoOf a b i)) t1) (.str (txt (twoOf a b j)) t2)) Q' E' s')
  refine call_max_walk (wpAny_pyIter_list pl.isList ?_)
  refine ⟨s.heap.objs.size, [s.heap.objs.size, p], [s.heap.objs.size], _, _, _, _, rfl, Walks.list (A := X.A.in1) (show X.A.in1.handled = none from I.ok.hd hc) s.heap.objs.size p hne #[.str (txt a) t, .str (txt b) t'],
    ⟨⟨_, Heap.get?_push_size _ rfl, rfl, rfl⟩, pl.isList.at fun o e => Heap.get?_push_of_some _ e⟩, fun c hc => ?_, Nat.zero_lt_two, cmp, fun v h' tk hP hk => ?_⟩
  · show c < (s.heap.push _).objs.size
    rw [Heap.size_push]
    rcases List.mem_cons.mp hc with z | z
    · rw [z]; exact Nat.lt_succ_self _
    · rw [List.mem_singleton.mp z]; exact Nat.lt_succ_of_lt (by obtain ⟨o, e, _⟩ := pl.isList; exact Heap.lt_size e)
  · have old : ∀ c o, s.heap.get? c = some o → h'.get? c = some o := fun c o e => by
      refine hk c o (fun hm => ?_) (Heap.get?_push_of_some _ e)
      have lt := Heap.lt_size e
      rw [List.mem_singleton.mp hm] at lt
      exact absurd lt (Nat.lt_irrefl _)
    refine ⟨_, H, I.kept old, ?_, q⟩
    have hP' : (#[Value.str (txt a) t, .str (txt b) t'])[argBest (fun i j => decide (twoOf a b j < twoOf a b i)) 1]? = some v := hP
    by_cases hba : a < b
    · have e : argBest (fun i j => decide (twoOf a b j < twoOf a b i)) 1 = 1 := by simp [argBest, twoOf, hba]
      rw [e] at hP'; rw [if_pos hba]; exact ⟨t', by simpa using hP'.symm⟩
    · have e : argBest (fun i j => decide (twoOf a b j < twoOf a b i)) 1 = 0 := by simp [argBest, twoOf, hba]
      rw [e] at hP'; rw [if_neg hba]; exact ⟨t, by simpa using hP'.symm⟩
end
end L2
set_option Elab.async false
set_option linter.all false
set_option maxRecDepth 100000
set_option maxHeartbeats 1000000
namespace L2
section
open PySem PySem.Spec PyProof.Rows Builtin Builtin.ObjectAttr Builtin.Getset_descriptor
structure ExcK (K : PySem.W.Frag) (C : Addr) : Prop where
  ga : PySem.W.findIn K (.ref C) "__getattribute__" = some (some (.builtin "BaseException.__getattribute__"))
  gt : PySem.W.findIn K (.ref C) "__getattr__" = some none
  cl : PySem.W.findIn K (.ref C) "__class__" = some (some (.builtin "object.__class__"))
  mo : PySem.W.mroIn K C (.type "object") = some true
  mb : PySem.W.mroIn K C (.type "BaseException") = some true
section
variable {prog : Program} {w : World} {A : Around} {E : Value → Shared → Prop} {K : PySem.W.Frag} {x C : Addr} {o : Obj}
theorem exc_ty {M : Model} {h : Heap} (hx : h.get? x = some o) (hc : o.cls = .ref C) : PySem.W.Looks M h (typeOf (.ref x)) (.ref C) := hc ▸ (PySem.W.Looks.ld hx).andThen .now
theorem exc_get {R : Result → Shared → Prop} {tp : Value} {s : Shared} (X : K.In s.heap) (hx : s.heap.get? x = some o) (hc : o.cls = .ref C) (hm : PySem.W.mroIn K C (.type "object") = some true)
    (q : R (.ok (.ret (.ref C))) s) : codeAny (model prog w) A (.call (.builtin "getset_descriptor.__get__") ⟨[.builtin "object.__class__", .ref x, tp], []⟩) R s := by
  obtain ⟨hh, g, dr, t, os⟩ := s
  have T0 := exc_ty (M := model prog w) hx hc
  have T1 := PySem.W.looks_mroIn (M := model prog w) X hm
  refine codeAny_call_builtin PySem.W.KF.slot_gs.plain PySem.W.KF.entry_gs (PySem.W.KF.slot_gs.check _ _ _ _ _ _ _ _ PySem.W.KF.type_class (PySem.W.KF.args_gs _ _ _) ?_)
  unfold Builtin.«getset_descriptor.__get__» descrGet; rw [PySem.W.dga_obj]; refine wpAny_bind (wpAny_pure ?_); unfold descrGetter descrCheckInstance descrNameAndClass isInstance; simp only [PySem.W.KF.owner_class]
  repeat lk
  refine ⟨Code.quiet_builtin _ (by decide +kernel), codeAny_builtin PySem.W.KF.entry_class ?_⟩; unfold Builtin.«object.__class__» shownTypeOf
  repeat lk
  exact q
theorem exc_entry {tk : Tok} {Q : Fin → Shared → Prop} {s : Shared} (hk : ExcK K C) (X : K.In s.heap) (hx : s.heap.get? x = some o) (hc : o.cls = .ref C) (q : Q (.done (.ret (.ref C))) s) :
    wpAny (model prog w) A (Builtin.«object.__getattribute__» ⟨[.ref x, .str "__class__" tk], []⟩) Q E s := by
  obtain ⟨hh, g, dr, t, os⟩ := s
  have T0 := exc_ty (M := model prog w) hx hc
  have T1 := PySem.W.looks_findIn (M := model prog w) X hk.cl
  have f6 := F.slot_gs_get.lookup
  have f7 := F.slot_gs_set.lookup
  have f5 := PySem.W.KF.type_class
  repeat (any_goals (first | assumption | with_reducible refine T0.at ?_ | with_reducible refine T1.at ?_ | wp_step))
  refine exc_get X hx hc hk.mo ?_
  repeat (any_goals (first | assumption | wp_step))
theorem exc_check {M : Model} {nameV : Value} {Q : Unit → Shared → Prop} {s : Shared} (hk : ExcK K C) (X : K.In s.heap) (hx : s.heap.get? x = some o) (hc : o.cls = .ref C) (q : Q () s) :
    wpAny M A (checkBuiltinCall "BaseException.__getattribute__" ⟨[.ref x, nameV], []⟩) Q E s := by
  obtain ⟨hh, g, dr, t, os⟩ := s
  have k1 : builtinKind "BaseException.__getattribute__" = some .slot := by decide +kernel
  have k2 : splitId "BaseException.__getattribute__" = some ("BaseException", "__getattribute__") := by decide +kernel
  have T0 := exc_ty (M := M) hx hc
  have T1 := PySem.W.looks_mroIn (M := M) X hk.mb
  have T2 : PySem.W.Looks M hh (isInstance (.ref x) (.type "BaseException")) true := T0.andThen T1
  have ha := F.args_bexc_ga (.ref x) nameV
  simp only [checkBuiltinCall, k1, k2]
  refine wpAny_bind (T2.at ?_)
  repeat (any_goals (first | assumption | wp_step))
theorem exc_attr {Q : Option Value → Shared → Prop} {s : Shared} (hk : ExcK K C) (X : K.In s.heap) (hx : s.heap.get? x = some o) (hc : o.cls = .ref C) (q : Q (some (.ref C)) { s with toks := s.toks + 1 }) :
    wpAny (model prog w) A (getAttr? (.ref x) "__class__") Q E s := by
  obtain ⟨hh, g, dr, t, os⟩ := s
  have T0 := exc_ty (M := model prog w) hx hc
  have T1 := PySem.W.looks_findIn (M := model prog w) X hk.ga
  have T2 := PySem.W.looks_findIn (M := model prog w) X hk.gt
  unfold getAttr? getAttrBy? getAttrBy
  refine wpAny_bind (wpAny_mkText (wpAny_bind (wpAny_attempt ?_)))
  refine wpAny_holding (wpAny_bind (T0.at (wpAny_bind (T1.at ?_))))
  have FB := PySem.F.attrBase_ValueError
  have f3 := FB.ga.bind (.ref x)
  have b2 : (Value.builtin "BaseException.__getattribute__" == Value.builtin "object.__getattribute__") = false := by decide +kernel
  have b1 : (onTheHeap (Value.ref C) && Value.builtin "BaseException.__getattribute__" == Value.builtin "object.__getattribute__") = false := by rw [b2]; rfl
  show wpAny _ _ (if (onTheHeap (Value.ref C) && Value.builtin "BaseException.__getattribute__" == Value.builtin "object.__getattribute__") = true then _ else _) _ _ _
  rw [b1, if_neg (by decide)]
  unfold getAttrByItsOwn
  repeat (any_goals (first | assumption | with_reducible refine T2.at ?_ | wp_step))
  refine codeAny_call_builtin FB.ga.plain F.entry_bexc_ga (exc_check hk X hx hc (exc_entry hk X hx hc ?_))
  show wpAny _ _ (handedOut (.ref C)) _ _ _
  exact wpAny_pure (wpAny_pure q)
def ExcAt (x C : Addr) (h : Heap) : Prop := ∃ o, h.get? x = some o ∧ o.cls = .ref C
theorem kitx_exc (hk : ExcK K C) : PySem.W.KitX K (.ref x) (.ref C) (ExcAt x C) where
  ty := fun M h _ p => by obtain ⟨o, h1, h2⟩ := p; exact exc_ty h1 h2
  it := fun M h X p => by
    obtain ⟨cd, e, _⟩ := Option.bind_eq_some_iff.mp hk.mo
    unfold PySem.W.clsIn at e
    split at e
    next ho =>
      intro A' Q' E' s' k q
      unfold isType loadHead
      exact wpAny_bind (wpAny_loadPart (k _ _ (X _ _ ho)) (wpAny_pure q))
    next => cases e
  ne := fun h tp dd its n sl X htp => by
    obtain ⟨cd, e, _⟩ := Option.bind_eq_some_iff.mp hk.mo
    refine Bool.eq_false_iff.mpr fun z => ?_
    obtain rfl : C = tp := Value.ref.inj (beq_iff_eq.mp z)
    unfold PySem.W.clsIn at e
    split at e
    next ho => have y := (X _ _ ho).symm.trans htp; cases y
    next => cases e
  ca := fun X p k => by obtain ⟨o, h1, h2⟩ := p; exact exc_attr hk X h1 h2 k
end
end
open PySem PySem.Spec PyProof.Rows
def ClsV (K : PySem.W.Frag) (H : Hp) (C : Addr) (c : V) (b : Bool) : Prop :=
  (∃ D, c = .ref D ∧ PySem.W.kitOne K (.ref C) (.ref D) = some b) ∨ (∃ T, c = .ty T ∧ PySem.W.kitOne K (.ref C) (.type T) = some b) ∨ (∃ p, ∃ ds : List Addr, c = .ref p ∧ H p = some (.tup (ds.map V.ref)) ∧ PySem.W.kitAny K (.ref C) (ds.map Value.ref) = some b)
def rIsE (K : PySem.W.Frag) : List V → Hp → VK → Prop := fun xs H Q => ∃ ea C c b, xs = [.ref ea, c] ∧ H ea = some (excO ea C) ∧ ExcK K C ∧ ClsV K H C c b ∧ Q (.bl b) H
theorem kit_self {K : PySem.W.Frag} {C : Addr} : PySem.W.kitOne K (.ref C) (.ref C) = some true := by
  unfold PySem.W.kitOne
  rw [if_pos (beq_self_eq_true _)]
theorem kit_ty {K : PySem.W.Frag} {C : Addr} {T : String} {b : Bool} (h1 : PySem.W.kitMeta T = true) (h2 : PySem.W.mroIn K C (.type T) = some b) : PySem.W.kitOne K (.ref C) (.type T) = some b := by
  unfold PySem.W.kitOne PySem.W.kitCls
  rw [if_neg (fun z => by cases beq_iff_eq.mp z)]
  show (if PySem.W.kitMeta T = true then PySem.W.mroIn K C (.type T) else none) = some b
  rw [if_pos h1, h2]
theorem kit_cl {K : PySem.W.Frag} {C D : Addr} {b : Bool} (h1 : PySem.W.typeIn K (.ref D) = some (.type "type")) (h2 : PySem.W.mroIn K D (.type "object") = some true) (h3 : PySem.W.mroIn K C (.ref D) = some b) (h4 : (C == D) = false) : PySem.W.kitOne K (.ref C) (.ref D) = some b := by
  unfold PySem.W.kitOne PySem.W.kitCls
  rw [if_neg (fun z => by have e := Value.ref.inj (beq_iff_eq.mp z); rw [e] at h4; simp at h4)]
  obtain ⟨cd, e, _⟩ := Option.bind_eq_some_iff.mp h2
  show (if ((PySem.W.clsIn K D).isSome && PySem.W.typeIn K (.ref D) == some (.type "type")) = true then PySem.W.mroIn K C (.ref D) else none) = some b
  rw [if_pos (by rw [e, h1]; rfl), h3]
theorem kit_nil {K : PySem.W.Frag} {t : Value} : PySem.W.kitAny K t [] = some false := rfl
theorem kit_no {K : PySem.W.Frag} {t c : Value} {cs : List Value} {b : Bool} (h : PySem.W.kitOne K t c = some false) (h2 : PySem.W.kitAny K t cs = some b) : PySem.W.kitAny K t (c :: cs) = some b := by
  unfold PySem.W.kitAny
  rw [h]
  exact h2
theorem isE_go {K : PySem.W.Frag} {H : Hp} {ea C D : Addr} {b : Bool} {Q : VK} (h : H ea = some (excO ea C)) (hk : ExcK K C) (e : PySem.W.kitOne K (.ref C) (.ref D) = some b) (q : Q (.bl b) H) : rIsE K [.ref ea, .ref D] H Q := ⟨ea, C, _, b, rfl, h, hk, .inl ⟨D, rfl, e⟩, q⟩
theorem isET_go {K : PySem.W.Frag} {H : Hp} {ea C : Addr} {T : String} {b : Bool} {Q : VK} (h : H ea = some (excO ea C)) (hk : ExcK K C) (e : PySem.W.kitOne K (.ref C) (.type T) = some b) (q : Q (.bl b) H) : rIsE K [.ref ea, .ty T] H Q := ⟨ea, C, _, b, rfl, h, hk, .inr (.inl ⟨T, rfl, e⟩), q⟩
theorem isEs_go {K : PySem.W.Frag} {H : Hp} {ea C p : Addr} {ds : List Addr} {b : Bool} {Q : VK} (h : H ea = some (excO ea C)) (hk : ExcK K C) (hp : H p = some (.tup (ds.map V.ref))) (e : PySem.W.kitAny K (.ref C) (ds.map Value.ref) = some b) (q : Q (.bl b) H) : rIsE K [.ref ea, .ref p] H Q := ⟨ea, C, _, b, rfl, h, hk, .inr (.inr ⟨p, ds, rfl, hp, e⟩), q⟩
theorem refs_of : ∀ {ds : List Addr} {us : List Value}, Vals (ds.map V.ref) us → us = ds.map Value.ref
  | [], us, h => by cases h; rfl
  | d :: ds, us, h => by
    cases h with
    | cons h1 h2 =>
      rw [refs_of h2]
      have e : _ = Value.ref d := h1
      rw [e]
      rfl
section
variable {X : Cx}
theorem call_isE : CallR X (.builtin "isinstance") (rIsE X.K) := by
  intro pins s σ H xs us Q I r h
  obtain ⟨ea, C, c, b, rfl, hH, hk, hc, q⟩ := h
  obtain ⟨u, w', rfl, ru, rw'⟩ := vals2 r
  obtain rfl : u = Value.ref ea := ru
  obtain ⟨ho, _, _⟩ := (show ObjOk X.prog X.w H s.heap ea (excO ea C) from I.hok ea _ hH)
  rcases hc with ⟨D, rfl, e⟩ | ⟨T, rfl, e⟩ | ⟨p, ds, rfl, hp, e⟩
  · obtain rfl : w' = Value.ref D := rw'
    exact PySem.W.kia_one (kitx_exc hk) I.kIn ho e (by intro z; cases z) fun tk => ⟨.bl b, H, I.tok tk, rfl, q⟩
  · obtain rfl : w' = Value.type T := rw'
    exact PySem.W.kia_one (kitx_exc hk) I.kIn ho e (by intro z; cases z) fun tk => ⟨.bl b, H, I.tok tk, rfl, q⟩
  · obtain rfl : w' = Value.ref p := rw'
    obtain ⟨hz, its, rv, htp⟩ := (show ObjOk X.prog X.w H s.heap p (.tup (ds.map V.ref)) from I.hok p _ hp)
    obtain ⟨o, e1, e2, n, e3⟩ := htp
    rw [← refs_of rv] at e
    obtain ⟨oc, od, oda, osl⟩ := o
    dsimp only at e2 e3
    subst e2 e3
    exact PySem.W.kia_tup (kitx_exc hk) I.kIn ho e1 e (by intro z; cases z) fun tk => ⟨.bl b, H, I.tok tk, rfl, q⟩
theorem ke_cls {z : Str} {D : Addr} {p : Pos} (hm : X.mg z = some (.ref D)) (hg : X.env.kindOf z = some .globalImplicit := by kernel_rfl) (hd : (z == ("__debug__" : Str)) = false := by kernel_rfl) : QE X (.Name z p) (tC (.ref D)) := ⟨pe_glob (v := .ref D) hg hm rfl hd⟩
theorem ke_ty {z : Str} {T : String} {p : Pos} (hm : X.mg z = none) (hv : bootBuiltins z = some (.type T)) (hg : X.env.kindOf z = some .globalImplicit := by kernel_rfl) (hn : decide (z = "__name__") = false := by kernel_rfl) (hd : (z == ("__debug__" : Str)) = false := by kernel_rfl) : QE X (.Name z p) (tC (.ty T)) := ⟨pe_bltn (v := .ty T) hg hm hv rfl (of_decide_eq_false hn) hd⟩
end
section
variable {X : Cx}
end
end L2
local macro_rules | `(tactic| and_intros) => `(tactic| simp only [L2.tCompSet,L2.tRaise,L2.tIsi,L2.tSeq,L2.tAsg,L2.gName,L2.tOp,L2.tUn,L2.tVar,L2.tC,L2.tTest,L2.tB,L2.tIf,L2.tIfS,L2.tAnd,L2.tOr,L2.tNot,L2.tAndV,L2.tOrV,L2.tNotV,L2.tRet,L2.tRetN,L2.tNext,L2.tDrop,L2.tCB,L2.tCons,L2.tNil,L2.tBM,L2.tBM0,L2.tCall,L2.tLst,L2.tTup,L2.tSl,L2.tPart,L2.tNoPart,L2.tIsN,L2.tNotN,L2.tYes,L2.tBreak,L2.tCont,L2.rI0,L2.rI,L2.rU,L2.rEq,L2.rNe,L2.start,L2.compSt,List.map_cons,List.map_nil,List.length_cons,List.length_nil,List.replicate_succ,List.replicate_zero,List.cons_append,List.nil_append,List.append_nil,List.getElem?_cons_zero,List.getElem?_cons_succ,List.set_cons_zero,List.set_cons_succ,Option.some.injEq,Option.join_some,L2.V.int.injEq,L2.V.str.injEq,L2.V.bl.injEq,L2.V.ref.injEq,L2.txt_inj,exists_eq_left',exists_eq_left,exists_and_left,and_true,true_and,decide_eq_true_eq,reduceCtorEq,decide_false,decide_true,Bool.not_false,Bool.not_true,if_true,if_false,Bool.false_eq_true,Nat.reduceAdd,Nat.reduceSub,Bool.not_eq_true',decide_eq_false_iff_not,not_true_eq_false,not_false_eq_true])
set_option Elab.async false
set_option linter.all false
set_option maxRecDepth 100000
set_option maxHeartbeats 4000000
namespace L2
open PySem PySem.Spec PyProof.Rows MM
def spDraw (K : PySem.W.Frag) : Sp := fun vs H Q _ => ∃ (a : Addr) (ns : List Int) (k m : Int), vs = [.ref a, .int k, .int m] ∧ SqL K H a (ns.map V.int) ∧ ns.length ≤ 63 ∧ 0 ≤ k ∧ k < 1048576 ∧ 0 < m ∧ ∀ r : Int, 0 ≤ r → r < m → Q (.int r) H
theorem draw_end {i k m : Int} {Q : Int → Prop} (h0 : 0 ≤ k) (h1 : k < 1048576) (h2 : 0 < m) (q : ∀ r : Int, 0 ≤ r → r < m → Q r) :
    (0 : Int) < 1000003 ∧ CMulB 31 k ∧ CMulB (31 * k) k ∧ CMulB (i % 1000003 + 31 * k * k + 1) 48271 ∧ (0 : Int) < 999983 ∧ CMulB ((i % 1000003 + 31 * k * k + 1) * 48271 % 999983) 7919 ∧ (0 : Int) < 524287 ∧ 0 < m ∧
      Q ((i % 1000003 + 31 * k * k + 1) * 48271 % 999983 * 7919 % 524287 % m) :=
  ⟨by decide, mulB_l (by decide) (by decide), mulB_r (by omega) (by omega), mulB_r (by decide) (by decide), by decide, mulB_r (by decide) (by decide), by decide, h2, q _ (Int.emod_nonneg _ (by omega)) (Int.emod_lt_of_pos _ h2)⟩
def spEnds : Sp := fun vs H Q _ => ∃ (K h j : Nat), vs = [.int K, .int h, .int j] ∧ K ≤ 26 ∧ 0 < h ∧ ∀ H', Same H H' → Q (.str (txt (endsL K h j))) H'
def rdEnds (K : PySem.W.Frag) : TS :=
    tRet (tBM K "str" (rJoin K) (tC (.str (txt []))) (tCons (tComp (iRng2 (tCons (tC (.int 1)) (tCons (tVar 0) tNil))) [2, 1] (tTest (tOp rEq (tOp rModI (tOp rSubI (tVar 0) (tC (.int 1))) (tVar 2)) (tVar 1))) (tOp rIxStr (tC (.str (txt ABC))) (tVar 0))) tNil))
theorem flat_ones (l : List Nat) : (l.map fun c => [c]).flatten = l := by
  induction l with
  | nil => rfl
  | cons c l ih => rw [List.map_cons, List.flatten_cons, ih]; rfl
theorem sum_ones (l : List Nat) : ((l.map fun c => [c]).map (·.length)).sum = l.length := by
  induction l with
  | nil => rfl
  | cons c l ih => simp only [List.map_cons, List.sum_cons, ih, List.length_cons, List.length_nil]; omega
theorem read_ends {K : PySem.W.Frag} {N : List Str} {vs : List V} {H : Hp} {Q : VK} {E : XK} (hN : N.length = 3) (h : spEnds vs H Q E) : rdEnds K { nx := fun _ H' => Q .non H', rt := Q } (L2.start N vs) H := by
  obtain ⟨n, h, j, rfl, hn, hh, q⟩ := h
  unfold rdEnds L2.start
  rw [hN]
  and_intros
  refine ⟨rfl, ?_⟩
  refine comp_r2 (l := 1) (j := n) (fun Q h => ⟨_, rfl, h⟩) (by decide) (by decide) (by omega) (by omega) (Nat.le_trans (show ((n : Int) - 1).toNat ≤ 100000 by omega) (by decide))
    (fun i ys H' => H' = H ∧ ys = ((List.range i).filter (fun i => decide (i % h = j))).map (fun i => strV [98 + i])) ⟨rfl, rfl⟩
    (fun i ys H' _ p => by rw [p.2, List.length_map]; exact Nat.le_trans (List.length_filter_le _ _) (by rw [List.length_range]; exact Nat.le_refl _)) ?_ ?_
  · rintro i ys H' hi ⟨rfl, rfl⟩ R hR
    and_intros
    have e1 : (1 + (i : Int) - 1) % (h : Int) = ((i % h : Nat) : Int) := by rw [show (1 + (i : Int) - 1) = (i : Int) by omega]; exact (Int.natCast_emod i h).symm
    rw [e1]
    refine ⟨by omega, rfl, ?_⟩
    rw [List.range_succ, List.filter_append, List.map_append] at hR
    split
    · rename_i e
      refine ixABC_go (by omega) (by omega) (hR _ _ ⟨rfl, ?_⟩)
      rw [show (1 + (i : Int)).toNat = i + 1 by omega, List.filter_cons_of_pos (by simpa using (show i % h = j by omega))]
      simp only [List.filter_nil, List.map_cons, List.map_nil]
      rw [show 97 + (i + 1) = 98 + i by omega]; rfl
    · rename_i e
      refine hR _ _ ⟨rfl, ?_⟩
      rw [List.filter_cons_of_neg (by simpa using (show ¬ i % h = j by omega))]
      simp
  · rintro ys H' ⟨rfl, rfl⟩ p hp
    refine ⟨[], p, (endsL n h j).map (fun c => [c]), rfl, rfl, ?_, ?_, ?_⟩
    · refine .inl (.inl (Eq.trans upd_same (congrArg (fun l => some (HO.lst l)) ?_)))
      unfold endsL
      rw [show ((n : Int) - 1).toNat = n - 1 by omega, List.map_map, List.map_map]
      rfl
    · rw [sum_ones, List.length_map]
      have : (endsL n h j).length ≤ 26 := by
        unfold endsL
        rw [List.length_map]
        exact Nat.le_trans (List.length_filter_le _ _) (by rw [List.length_range]; omega)
      simp only [List.length_nil]; omega
    · rw [joinL_nil, flat_ones]
      exact q _ (Same.up _ hp)
end L2
set_option Elab.async false
set_option linter.all false
set_option maxRecDepth 100000
set_option maxHeartbeats 4000000
namespace L2
open PySem PySem.Spec PyProof.Rows MM
def oV : Option (List Nat) → V
  | none => .non
  | some l => .str (txt l)
def figO : Option (List Nat) → Nat → Nat
  | none, _ => 0
  | some l, i => fig l i
def valO (K : Nat) : Option (List Nat) → Nat → Nat
  | none, _ => 0
  | some l, n => val K l n
def OkO : Option (List Nat) → Prop
  | none => True
  | some l => Ls 26 l ∧ l.length ≤ 100000
theorem valO_zero (K : Nat) (o : Option (List Nat)) : valO K o 0 = 0 := by cases o <;> simp [valO, val_zero]
theorem valO_succ (K : Nat) (o : Option (List Nat)) (n : Nat) : valO K o (n + 1) = valO K o n * K + figO o n := by
  cases o with
  | none => simp [valO, figO]
  | some l => exact val_succ K l n
def spFig : Sp := fun vs H Q _ => ∃ (o : Option (List Nat)) (i : Nat), vs = [oV o, .int i] ∧ OkO o ∧ Q (.int (figO o i : Nat)) H
def rdFig (K : PySem.W.Frag) : TS :=
    tSeq (tIfS (tOr (tB (tIsN (tVar 0))) (tTest (tOp rGeI (tVar 1) (tCB rLenS (tCons (tVar 0) tNil))))) (tRet (tC (.int 0))) (tNext))
      (tRet (tBM K "str" rIndex (tC (.str (txt ABC))) (tCons (tOp rIxStr (tVar 0) (tVar 1)) tNil)))
theorem read_fig {K : PySem.W.Frag} {N : List Str} {vs : List V} {H : Hp} {Q : VK} {E : XK} (hN : N.length = 2) (h : spFig vs H Q E) : rdFig K { nx := fun _ H' => Q .non H', rt := Q } (L2.start N vs) H := by
  obtain ⟨o, i, rfl, ho, q⟩ := h
  unfold rdFig L2.start
  rw [hN]
  cases o with
  | none =>
    simp only [oV, tCompSet,tRaise,tIsi,tSeq,tAsg,gName,tOp,tUn,tVar,tC,tTest,tB,tIf,tIfS,tAnd,tOr,tNot,tAndV,tOrV,tNotV,tRet,tRetN,tNext,tDrop,tCB,tCons,tNil,tBM,tBM0,tCall,tLst,tTup,tSl,tPart,tNoPart,tIsN,tNotN,tYes,tBreak,tCont,rI0,rI,rU,rEq,rNe,L2.start,compSt,List.map_cons,List.map_nil,List.length_cons,List.length_nil,List.replicate_succ,List.replicate_zero,List.cons_append,List.nil_append,List.append_nil,List.getElem?_cons_zero,List.getElem?_cons_succ,List.set_cons_zero,List.set_cons_succ,Option.some.injEq,Option.join_some,V.int.injEq,V.str.injEq,V.bl.injEq,V.ref.injEq,txt_inj,exists_eq_left',exists_eq_left,exists_and_left,and_true,true_and,decide_eq_true_eq,reduceCtorEq,decide_false,decide_true,Bool.not_false,Bool.not_true,if_true,if_false,Bool.false_eq_true,Nat.reduceAdd,Nat.reduceSub,Bool.not_eq_true',decide_eq_false_iff_not,not_true_eq_false,not_false_eq_true]
    exact q
  | some l =>
    obtain ⟨hl, hz⟩ := ho
    simp only [oV, tCompSet,tRaise,tIsi,tSeq,tAsg,gName,tOp,tUn,tVar,tC,tTest,tB,tIf,tIfS,tAnd,tOr,tNot,tAndV,tOrV,tNotV,tRet,tRetN,tNext,tDrop,tCB,tCons,tNil,tBM,tBM0,tCall,tLst,tTup,tSl,tPart,tNoPart,tIsN,tNotN,tYes,tBreak,tCont,rI0,rI,rU,rEq,rNe,L2.start,compSt,List.map_cons,List.map_nil,List.length_cons,List.length_nil,List.replicate_succ,List.replicate_zero,List.cons_append,List.nil_append,List.append_nil,List.getElem?_cons_zero,List.getElem?_cons_succ,List.set_cons_zero,List.set_cons_succ,Option.some.injEq,Option.join_some,V.int.injEq,V.str.injEq,V.bl.injEq,V.ref.injEq,txt_inj,exists_eq_left',exists_eq_left,exists_and_left,and_true,true_and,decide_eq_true_eq,reduceCtorEq,decide_false,decide_true,Bool.not_false,Bool.not_true,if_true,if_false,Bool.false_eq_true,Nat.reduceAdd,Nat.reduceSub,Bool.not_eq_true',decide_eq_false_iff_not,not_true_eq_false,not_false_eq_true]
    refine lenS_go hz ⟨_, rfl, ?_⟩
    by_cases hi : l.length ≤ i
    · rw [if_pos (by omega)]
      have e : figO (some l) i = 0 := by simp [figO, fig, List.getElem?_eq_none hi]
      rw [e] at q
      exact q
    · rw [if_neg (by omega)]
      have hi' : i < l.length := by omega
      have e : figO (some l) i = l[i] - 97 := by simp [figO, fig, hi']
      have hc := hl l[i] (List.getElem_mem hi')
      rw [e] at q
      exact ⟨rfl, ixS_go hz (by omega) (by simp [hi']) (idxABC_go hc.1 hc.2 q)⟩
def spWhole : Sp := fun vs H Q _ => ∃ (L : Nat) (o : Option (List Nat)) (n : Nat), vs = [.int L, oV o, .int n] ∧ L ≤ 26 ∧ OkO o ∧ n ≤ 100000 ∧ Q (.int (valO L o n : Nat)) H
def rdWhole : TS :=
    tSeq (tAsg (tC (.int 0)) (gName 3))
      (tSeq (tFor (iRng1 (tCons (tVar 2) tNil)) (gName 4) (tAsg (tOp rAddI (tOp rMulI (tVar 3) (tVar 0)) (tCall spFig [] E0 (tCons (tVar 1) (tCons (tVar 4) tNil)))) (gName 3)))
      (tRet (tVar 3)))
theorem read_whole {N : List Str} {vs : List V} {H : Hp} {Q : VK} {E : XK} (hN : N.length = 5) (h : spWhole vs H Q E) : rdWhole { nx := fun _ H' => Q .non H', rt := Q } (L2.start N vs) H := by
  obtain ⟨L, o, n, rfl, hL, ho, hn, q⟩ := h
  unfold rdWhole L2.start
  rw [hN]
  and_intros
  refine for_r1 (j := n) (fun Q h => ⟨_, rfl, h⟩) (by omega) (by omega) (fun i σ H' => H' = H ∧ ∃ v4, σ = [some (.int L), some (oV o), some (.int n), some (.int (valO L o i : Nat)), v4]) ⟨rfl, _, by rw [valO_zero]; rfl⟩ ?_ ?_
  · rintro i σ H1 hi ⟨rfl, v4, rfl⟩
    and_intros
    refine ⟨mulB_r (by omega) (by omega), o, i, rfl, ho, ?_⟩
    and_intros
    exact ⟨some (.int i), by rw [valO_succ, Int.natCast_add, Int.natCast_mul]⟩
  · rintro σ H1 ⟨rfl, v4, rfl⟩
    and_intros
    rw [Int.toNat_natCast]
    exact q
def spMarkOf : Sp := fun vs H Q _ => ∃ (L r n : Nat), vs = [.int L, .int r, .int n] ∧ 0 < L ∧ L ≤ 26 ∧ n ≤ 100000 ∧ Q (.str (txt (mk L r n))) H
def rdMarkOf (K : PySem.W.Frag) : TS :=
    tSeq (tAsg (tC (.str (txt []))) (gName 3))
      (tSeq (tAsg (tVar 1) (gName 4))
      (tSeq (tFor (iRng1 (tCons (tVar 2) tNil)) (gName 5) (tSeq (tAsg (tOp rAddS (tOp rIxStr (tC (.str (txt ABC))) (tOp rModI (tVar 4) (tVar 0))) (tVar 3)) (gName 3))
      (tAsg (tOp rDivI (tVar 4) (tVar 0)) (gName 4))))
      (tRet (tBM K "str" rRstrip (tVar 3) (tCons (tC (.str (txt [97]))) tNil)))))
theorem read_markOf {K : PySem.W.Frag} {N : List Str} {vs : List V} {H : Hp} {Q : VK} {E : XK} (hN : N.length = 6) (h : spMarkOf vs H Q E) : rdMarkOf K { nx := fun _ H' => Q .non H', rt := Q } (L2.start N vs) H := by
  obtain ⟨L, r, n, rfl, hL0, hL, hn, q⟩ := h
  unfold rdMarkOf L2.start
  rw [hN]
  and_intros
  refine for_r1 (j := n) (fun Q h => ⟨_, rfl, h⟩) (by omega) (by omega) (fun i σ H' => H' = H ∧ ∃ v5, σ = [some (.int L), some (.int r), some (.int n), some (.str (txt (low L r i))), some (.int (r / L ^ i : Nat)), v5]) ⟨rfl, _, by rw [Nat.pow_zero, Nat.div_one]; rfl⟩ ?_ ?_
  · rintro i σ H1 hi ⟨rfl, v5, rfl⟩
    have e1 : ((r / L ^ i : Nat) : Int) % (L : Int) = ((r / L ^ i % L : Nat) : Int) := (Int.natCast_emod _ _).symm
    have e2 : ((r / L ^ i : Nat) : Int) / (L : Int) = ((r / L ^ (i + 1) : Nat) : Int) := by rw [Nat.pow_succ, ← Nat.div_div_eq_div_mul]; exact (Int.natCast_ediv _ _).symm
    have hb := Nat.mod_lt (r / L ^ i) hL0
    and_intros
    rw [e1, e2]
    refine ⟨by omega, ixABC_go (by omega) (by omega) (addS_go (by rw [low_length]; simp only [List.length_cons, List.length_nil]; omega) ⟨cdiv (by omega) (by omega), ?_⟩)⟩
    exact ⟨rfl, some (.int i), by rw [Int.toNat_natCast]; rfl⟩
  · rintro σ H1 ⟨rfl, v5, rfl⟩
    and_intros
    rw [Int.toNat_natCast]
    exact ⟨rfl, rstrip_go (by rw [low_length]; exact hn) q⟩
theorem mem_abc {c L : Nat} (hL : L ≤ 26) : c ∈ ABC.take L ↔ 97 ≤ c ∧ c < 97 + L := by
  have e : ABC.take L = (List.range L).map (97 + ·) := by
    unfold ABC
    rw [← List.map_take, List.take_range, Nat.min_eq_left hL]
  rw [e, List.mem_map]
  constructor
  · rintro ⟨i, hi, rfl⟩; have := List.mem_range.mp hi; omega
  · rintro ⟨h1, h2⟩; exact ⟨c - 97, List.mem_range.mpr (by omega), by omega⟩
end L2
set_option Elab.async false
set_option linter.all false
set_option maxRecDepth 100000
set_option maxHeartbeats 4000000
namespace L2
open PySem PySem.Spec PyProof.Rows MM
theorem Same.set {H H' : Hp} {p : Addr} {o : HO} (s : Same H H') (hp : H p = none) : Same H (upd H' p o) := fun b q e => by
  have := s b q e
  rw [upd_ne (ne_of_none e hp)]; exact this
theorem some_at {α : Type} {l : List α} {i : Nat} (h : i < l.length) : ∃ c, l[i]? = some c := ⟨l[i], List.getElem?_eq_getElem h⟩
def spLWhole : Sp := fun vs H Q _ => ∃ (L : Nat) (l : List Nat) (n : Nat), vs = [.int L, .str (txt l), .int n] ∧ L ≤ 26 ∧ Ls 26 l ∧ l.length ≤ 100000 ∧ n ≤ 100000 ∧ Q (.int (val L l n : Nat)) H
def rdLWhole (K : PySem.W.Frag) : TS :=
    tSeq (tAsg (tC (.int 0)) (gName 3))
      (tSeq (tFor (iRng1 (tCons (tVar 2) tNil)) (gName 4) (tSeq (tAsg (tC (.int 0)) (gName 5))
      (tSeq (tIfS (tTest (tOp rLtI (tVar 4) (tCB rLenS (tCons (tVar 1) tNil)))) (tAsg (tBM K "str" rIndex (tC (.str (txt ABC))) (tCons (tOp rIxStr (tVar 1) (tVar 4)) tNil)) (gName 5)) (tNext))
      (tAsg (tOp rAddI (tOp rMulI (tVar 3) (tVar 0)) (tVar 5)) (gName 3)))))
      (tRet (tVar 3)))
theorem read_lwhole {K : PySem.W.Frag} {N : List Str} {vs : List V} {H : Hp} {Q : VK} {E : XK} (hN : N.length = 6) (h : spLWhole vs H Q E) : rdLWhole K { nx := fun _ H' => Q .non H', rt := Q } (L2.start N vs) H := by
  obtain ⟨L, l, n, rfl, hL, hl, hz, hn, q⟩ := h
  unfold rdLWhole L2.start
  rw [hN]
  and_intros
  refine for_r1 (j := n) (fun Q h => ⟨_, rfl, h⟩) (by omega) (by omega) (fun i σ H' => H' = H ∧ ∃ v4 v5, σ = [some (.int L), some (.str (txt l)), some (.int n), some (.int (val L l i : Nat)), v4, v5]) ⟨rfl, _, _, by rw [val_zero]; rfl⟩ ?_ ?_
  · rintro i σ H1 hi ⟨rfl, v4, v5, rfl⟩
    and_intros
    refine lenS_go hz ⟨_, rfl, ?_⟩
    by_cases hi2 : i < l.length
    · rw [if_pos (by omega)]
      have hc := hl l[i] (List.getElem_mem hi2)
      refine ⟨rfl, ixS_go hz (by omega) (by simp [hi2]) (idxABC_go hc.1 hc.2 ⟨mulB_r (by omega) (by omega), _, rfl, rfl, some (.int i), some (.int (l[i] - 97 : Nat)), ?_⟩)⟩
      rw [val_succ, Int.natCast_add, Int.natCast_mul]
      simp [fig, hi2]
    · rw [if_neg (by omega)]
      refine ⟨mulB_r (by omega) (by omega), rfl, some (.int i), some (.int 0), ?_⟩
      rw [val_succ, Int.natCast_add, Int.natCast_mul]
      simp [fig, List.getElem?_eq_none (Nat.le_of_not_lt hi2)]
  · rintro σ H1 ⟨rfl, v4, v5, rfl⟩
    and_intros
    rw [Int.toNat_natCast]
    exact q
end L2
set_option Elab.async false
set_option linter.all false
set_option maxRecDepth 100000
set_option maxHeartbeats 4000000
namespace L2
open PySem PySem.Spec PyProof.Rows MM
def spPower : Sp := fun vs H Q _ => ∃ (L n : Nat), vs = [.int L, .int n] ∧ L ≤ 26 ∧ n ≤ 100000 ∧ Q (.int (L ^ n : Nat)) H
def rdPower : TS :=
    tSeq (tAsg (tC (.int 1)) (gName 2))
      (tSeq (tFor (iRng1 (tCons (tVar 1) tNil)) (gName 3) (tAsg (tOp rMulI (tVar 2) (tVar 0)) (gName 2)))
      (tRet (tVar 2)))
theorem read_power {N : List Str} {vs : List V} {H : Hp} {Q : VK} {E : XK} (hN : N.length = 4) (h : spPower vs H Q E) : rdPower { nx := fun _ H' => Q .non H', rt := Q } (L2.start N vs) H := by
  obtain ⟨L, n, rfl, hL, hn, q⟩ := h
  unfold rdPower L2.start
  rw [hN]
  and_intros
  refine for_r1 (j := n) (fun Q h => ⟨_, rfl, h⟩) (by omega) (by omega) (fun i σ H' => H' = H ∧ ∃ v3, σ = [some (.int L), some (.int n), some (.int (L ^ i : Nat)), v3]) ⟨rfl, _, rfl⟩ ?_ ?_
  · rintro i σ H1 hi ⟨rfl, v3, rfl⟩
    and_intros
    exact ⟨mulB_r (by omega) (by omega), some (.int i), by rw [Nat.pow_succ, Int.natCast_mul]⟩
  · rintro σ H1 ⟨rfl, v3, rfl⟩
    and_intros
    rw [Int.toNat_natCast]
    exact q
def highO (L : Nat) : Option (List Nat) → Nat → Nat
  | none, n => L ^ n
  | some h, n => val L h n
def spHigh : Sp := fun vs H Q _ => ∃ (L : Nat) (o : Option (List Nat)) (n : Nat), vs = [.int L, oV o, .int n] ∧ L ≤ 26 ∧ OkO o ∧ n ≤ 100000 ∧ Q (.int (highO L o n : Nat)) H
def rdHigh : TS :=
    tSeq (tIfS (tB (tIsN (tVar 1))) (tRet (tCall spPower [] E0 (tCons (tVar 0) (tCons (tVar 2) tNil)))) (tNext))
      (tRet (tCall spWhole [] E0 (tCons (tVar 0) (tCons (tVar 1) (tCons (tVar 2) tNil)))))
theorem read_high {N : List Str} {vs : List V} {H : Hp} {Q : VK} {E : XK} (hN : N.length = 3) (h : spHigh vs H Q E) : rdHigh { nx := fun _ H' => Q .non H', rt := Q } (L2.start N vs) H := by
  obtain ⟨L, o, n, rfl, hL, ho, hn, q⟩ := h
  unfold rdHigh L2.start
  rw [hN]
  cases o with
  | none =>
    simp only [oV, tCompSet,tRaise,tIsi,tSeq,tAsg,gName,tOp,tUn,tVar,tC,tTest,tB,tIf,tIfS,tAnd,tOr,tNot,tAndV,tOrV,tNotV,tRet,tRetN,tNext,tDrop,tCB,tCons,tNil,tBM,tBM0,tCall,tLst,tTup,tSl,tPart,tNoPart,tIsN,tNotN,tYes,tBreak,tCont,rI0,rI,rU,rEq,rNe,L2.start,compSt,List.map_cons,List.map_nil,List.length_cons,List.length_nil,List.replicate_succ,List.replicate_zero,List.cons_append,List.nil_append,List.append_nil,List.getElem?_cons_zero,List.getElem?_cons_succ,List.set_cons_zero,List.set_cons_succ,Option.some.injEq,Option.join_some,V.int.injEq,V.str.injEq,V.bl.injEq,V.ref.injEq,txt_inj,exists_eq_left',exists_eq_left,exists_and_left,and_true,true_and,decide_eq_true_eq,reduceCtorEq,decide_false,decide_true,Bool.not_false,Bool.not_true,if_true,if_false,Bool.false_eq_true,Nat.reduceAdd,Nat.reduceSub,Bool.not_eq_true',decide_eq_false_iff_not,not_true_eq_false,not_false_eq_true]
    exact ⟨L, n, rfl, hL, hn, q⟩
  | some h =>
    simp only [oV, tCompSet,tRaise,tIsi,tSeq,tAsg,gName,tOp,tUn,tVar,tC,tTest,tB,tIf,tIfS,tAnd,tOr,tNot,tAndV,tOrV,tNotV,tRet,tRetN,tNext,tDrop,tCB,tCons,tNil,tBM,tBM0,tCall,tLst,tTup,tSl,tPart,tNoPart,tIsN,tNotN,tYes,tBreak,tCont,rI0,rI,rU,rEq,rNe,L2.start,compSt,List.map_cons,List.map_nil,List.length_cons,List.length_nil,List.replicate_succ,List.replicate_zero,List.cons_append,List.nil_append,List.append_nil,List.getElem?_cons_zero,List.getElem?_cons_succ,List.set_cons_zero,List.set_cons_succ,Option.some.injEq,Option.join_some,V.int.injEq,V.str.injEq,V.bl.injEq,V.ref.injEq,txt_inj,exists_eq_left',exists_eq_left,exists_and_left,and_true,true_and,decide_eq_true_eq,reduceCtorEq,decide_false,decide_true,Bool.not_false,Bool.not_true,if_true,if_false,Bool.false_eq_true,Nat.reduceAdd,Nat.reduceSub,Bool.not_eq_true',decide_eq_false_iff_not,not_true_eq_false,not_false_eq_true]
    exact ⟨L, some h, n, rfl, hL, ho, hn, q⟩
def spBelow : Sp := fun vs H Q _ => ∃ (L : Nat) (es : List Nat) (n : Nat), vs = [.int L, .str (txt es), .int n] ∧ 0 < L ∧ L ≤ 26 ∧ es.length ≤ 26 ∧ ∀ H', Same H H' → Q (.int (ob L es n : Nat)) H'
def rdBelow (K : PySem.W.Frag) : TS :=
    tSeq (tCompSet 3 (iStr (tVar 1)) [2, 0] (tTest (tOp rLtS (tVar 0) (tOp rIxStr (tC (.str (txt ABC))) (tOp rModI (tVar 1) (tVar 2))))) (tVar 0))
      (tRet (tOp rAddI (tOp rMulI (tOp rDivI (tVar 2) (tVar 0)) (tCB rLenS (tCons (tVar 1) tNil))) (tCB (rLenL K) (tCons (tVar 3) tNil))))
theorem one_lt (a b : Nat) : ([a] < [b]) ↔ a < b := by
  rw [List.cons_lt_cons_iff]
  constructor
  · rintro (h | ⟨_, h⟩)
    · exact h
    · exact absurd h (List.not_lt_nil _)
  · exact .inl
theorem read_below {K : PySem.W.Frag} {N : List Str} {vs : List V} {H : Hp} {Q : VK} {E : XK} (hN : N.length = 4) (h : spBelow vs H Q E) : rdBelow K { nx := fun _ H' => Q .non H', rt := Q } (L2.start N vs) H := by
  obtain ⟨L, es, n, rfl, hL0, hL, hes, q⟩ := h
  unfold rdBelow L2.start
  rw [hN]
  have hm := Nat.mod_lt n hL0
  have e1 : (n : Int) % (L : Int) = ((n % L : Nat) : Int) := (Int.natCast_emod _ _).symm
  have e2 : (n : Int) / (L : Int) = ((n / L : Nat) : Int) := (Int.natCast_ediv _ _).symm
  and_intros
  refine comp_s (l := es) (fun Q h => ⟨_, rfl, h⟩) (Nat.le_trans (show es.length ≤ 100000 by omega) (by decide)) (fun i ys H' => H' = H ∧ ys = ((es.take i).filter fun e => decide (e < 97 + n % L)).map (fun c => strV [c])) ⟨rfl, rfl⟩
    (fun i ys H' _ p => by rw [p.2, List.length_map]; exact Nat.le_trans (List.length_filter_le _ _) (by rw [List.length_take]; omega)) ?_ ?_
  · rintro i c ys H' hc ⟨rfl, rfl⟩ R hR
    and_intros
    rw [e1]
    refine ⟨by omega, ixABC_go (by omega) (by omega) ⟨_, _, rfl, rfl, _, rfl, ?_⟩⟩
    rw [Int.toNat_natCast]
    rw [List.take_succ, hc, List.filter_append, List.map_append] at hR
    by_cases hlt : c < 97 + n % L
    · rw [decide_eq_true ((one_lt _ _).mpr hlt), if_pos rfl]
      refine hR _ _ ⟨rfl, ?_⟩
      show _ = _ ++ List.map _ (List.filter _ [c])
      rw [List.filter_cons_of_pos (by simpa using hlt)]; rfl
    · rw [decide_eq_false (fun z => hlt ((one_lt _ _).mp z)), if_neg (by decide)]
      refine hR _ _ ⟨rfl, ?_⟩
      show _ = _ ++ List.map _ (List.filter _ [c])
      rw [List.filter_cons_of_neg (by simpa using hlt)]; simp
  · rintro ys H' ⟨rfl, rfl⟩ p hp
    rw [e2]
    refine ⟨cdiv (by omega) (by omega), lenS_go (by omega) ⟨_, rfl, mulB_r (by omega) (by omega), ?_⟩⟩
    refine lenL_go SqL.here ⟨_, rfl, ?_⟩
    rw [List.length_map, List.take_length]
    have := q _ (Same.up H' hp (o := HO.lst ((es.filter fun e => decide (e < 97 + n % L)).map (fun c => strV [c]))))
    unfold ob MM.cnt at this
    rw [Int.natCast_add, Int.natCast_mul] at this
    exact this
def spUpLow : Sp := fun vs H Q _ => ∃ (L : Nat) (es : List Nat) (n : Nat), vs = [.int L, .str (txt es), .int n] ∧ 0 < L ∧ L ≤ 26 ∧ es.length ≤ 26 ∧ ∀ H', Same H H' → Q (.int (ob L es (n + 1) : Nat)) H'
def rdUpLow : TS := tRet (tCall spBelow [] E0 (tCons (tVar 0) (tCons (tVar 1) (tCons (tOp rAddI (tVar 2) (tC (.int 1))) tNil))))
theorem read_upLow {N : List Str} {vs : List V} {H : Hp} {Q : VK} {E : XK} (hN : N.length = 3) (h : spUpLow vs H Q E) : rdUpLow { nx := fun _ H' => Q .non H', rt := Q } (L2.start N vs) H := by
  obtain ⟨L, es, n, rfl, hL0, hL, hes, q⟩ := h
  unfold rdUpLow L2.start
  rw [hN]
  and_intros
  exact ⟨L, es, n + 1, rfl, hL0, hL, hes, q⟩
def aheadN : Option (List Nat) → Nat → Nat → Nat
  | none, w, _ => w
  | some h, w, n => if n < h.length then w + 1 else w
def aheadB (b : Bool) (o : Option (List Nat)) (w n : Nat) : Nat := if b = true then aheadN o w n else w
def spAhead : Sp := fun vs H Q _ => ∃ (L : Nat) (es : List Nat) (o : Option (List Nat)) (w n : Nat) (b : Bool), vs = [.int L, .str (txt es), oV o, .int w, .int n, .bl b] ∧ 0 < L ∧ L ≤ 26 ∧ es.length ≤ 26 ∧ OkO o ∧ ∀ H', Same H H' → Q (.int (ob L es (aheadB b o w n) : Nat)) H'
def rdAhead : TS :=
    tSeq (tIfS (tAnd (tB (tVar 5)) (tAnd (tB (tNotN (tVar 2))) (tTest (tOp rLtI (tVar 4) (tCB rLenS (tCons (tVar 2) tNil)))))) (tRet (tCall spBelow [] E0 (tCons (tVar 0) (tCons (tVar 1) (tCons (tOp rAddI (tVar 3) (tC (.int 1))) tNil))))) (tNext))
      (tRet (tCall spBelow [] E0 (tCons (tVar 0) (tCons (tVar 1) (tCons (tVar 3) tNil)))))
theorem read_ahead {N : List Str} {vs : List V} {H : Hp} {Q : VK} {E : XK} (hN : N.length = 6) (h : spAhead vs H Q E) : rdAhead { nx := fun _ H' => Q .non H', rt := Q } (L2.start N vs) H := by
  obtain ⟨L, es, o, w, n, b, rfl, hL0, hL, hes, ho, q⟩ := h
  unfold rdAhead L2.start
  rw [hN]
  cases b with
  | false =>
    and_intros
    exact ⟨L, es, w, rfl, hL0, hL, hes, q⟩
  | true =>
    cases o with
    | none =>
      simp only [oV, tCompSet,tRaise,tIsi,tSeq,tAsg,gName,tOp,tUn,tVar,tC,tTest,tB,tIf,tIfS,tAnd,tOr,tNot,tAndV,tOrV,tNotV,tRet,tRetN,tNext,tDrop,tCB,tCons,tNil,tBM,tBM0,tCall,tLst,tTup,tSl,tPart,tNoPart,tIsN,tNotN,tYes,tBreak,tCont,rI0,rI,rU,rEq,rNe,L2.start,compSt,List.map_cons,List.map_nil,List.length_cons,List.length_nil,List.replicate_succ,List.replicate_zero,List.cons_append,List.nil_append,List.append_nil,List.getElem?_cons_zero,List.getElem?_cons_succ,List.set_cons_zero,List.set_cons_succ,Option.some.injEq,Option.join_some,V.int.injEq,V.str.injEq,V.bl.injEq,V.ref.injEq,txt_inj,exists_eq_left',exists_eq_left,exists_and_left,and_true,true_and,decide_eq_true_eq,reduceCtorEq,decide_false,decide_true,Bool.not_false,Bool.not_true,if_true,if_false,Bool.false_eq_true,Nat.reduceAdd,Nat.reduceSub,Bool.not_eq_true',decide_eq_false_iff_not,not_true_eq_false,not_false_eq_true]
      exact ⟨L, es, w, rfl, hL0, hL, hes, q⟩
    | some h =>
      simp only [oV, tCompSet,tRaise,tIsi,tSeq,tAsg,gName,tOp,tUn,tVar,tC,tTest,tB,tIf,tIfS,tAnd,tOr,tNot,tAndV,tOrV,tNotV,tRet,tRetN,tNext,tDrop,tCB,tCons,tNil,tBM,tBM0,tCall,tLst,tTup,tSl,tPart,tNoPart,tIsN,tNotN,tYes,tBreak,tCont,rI0,rI,rU,rEq,rNe,L2.start,compSt,List.map_cons,List.map_nil,List.length_cons,List.length_nil,List.replicate_succ,List.replicate_zero,List.cons_append,List.nil_append,List.append_nil,List.getElem?_cons_zero,List.getElem?_cons_succ,List.set_cons_zero,List.set_cons_succ,Option.some.injEq,Option.join_some,V.int.injEq,V.str.injEq,V.bl.injEq,V.ref.injEq,txt_inj,exists_eq_left',exists_eq_left,exists_and_left,and_true,true_and,decide_eq_true_eq,reduceCtorEq,decide_false,decide_true,Bool.not_false,Bool.not_true,if_true,if_false,Bool.false_eq_true,Nat.reduceAdd,Nat.reduceSub,Bool.not_eq_true',decide_eq_false_iff_not,not_true_eq_false,not_false_eq_true]
      refine lenS_go ho.2 ⟨_, rfl, ?_⟩
      have ea : aheadB true (some h) w n = if n < h.length then w + 1 else w := rfl
      rw [ea] at q
      by_cases hn : n < h.length
      · rw [if_pos (by omega)]
        rw [if_pos hn] at q
        exact ⟨L, es, w + 1, rfl, hL0, hL, hes, q⟩
      · rw [if_neg (by omega)]
        rw [if_neg hn] at q
        exact ⟨L, es, w, rfl, hL0, hL, hes, q⟩
def OkLH (lo hi : Option (List Nat)) : Prop := ∀ l h, lo = some l → hi = some h → l < h
def spAskRoom (c : Addr) : Sp := fun vs H Q E => ∃ lo hi : Option (List Nat), vs = [oV lo, oV hi] ∧ (OkLH lo hi → Q .non H) ∧ (¬ OkLH lo hi → E (.ref c) none H)
def rdAskRoom (c : Addr) (E : XK) (m : List Nat) : TS :=
    tIfS (tAnd (tB (tNotN (tVar 0))) (tAnd (tB (tNotN (tVar 1))) (tTest (tOp rGeS (tVar 0) (tVar 1))))) (tRaise (.ref c) E (tCons (tC (.str (txt m))) tNil)) (tNext)
theorem read_askRoom {c : Addr} {m : List Nat} {N : List Str} {vs : List V} {H : Hp} {Q : VK} {E : XK} (hN : N.length = 2) (h : spAskRoom c vs H Q E) : rdAskRoom c E m { nx := fun _ H' => Q .non H', rt := Q } (L2.start N vs) H := by
  obtain ⟨lo, hi, rfl, q1, q2⟩ := h
  unfold rdAskRoom L2.start
  rw [hN]
  cases lo with
  | none =>
    simp only [oV, tCompSet,tRaise,tIsi,tSeq,tAsg,gName,tOp,tUn,tVar,tC,tTest,tB,tIf,tIfS,tAnd,tOr,tNot,tAndV,tOrV,tNotV,tRet,tRetN,tNext,tDrop,tCB,tCons,tNil,tBM,tBM0,tCall,tLst,tTup,tSl,tPart,tNoPart,tIsN,tNotN,tYes,tBreak,tCont,rI0,rI,rU,rEq,rNe,L2.start,compSt,List.map_cons,List.map_nil,List.length_cons,List.length_nil,List.replicate_succ,List.replicate_zero,List.cons_append,List.nil_append,List.append_nil,List.getElem?_cons_zero,List.getElem?_cons_succ,List.set_cons_zero,List.set_cons_succ,Option.some.injEq,Option.join_some,V.int.injEq,V.str.injEq,V.bl.injEq,V.ref.injEq,txt_inj,exists_eq_left',exists_eq_left,exists_and_left,and_true,true_and,decide_eq_true_eq,reduceCtorEq,decide_false,decide_true,Bool.not_false,Bool.not_true,if_true,if_false,Bool.false_eq_true,Nat.reduceAdd,Nat.reduceSub,Bool.not_eq_true',decide_eq_false_iff_not,not_true_eq_false,not_false_eq_true]
    exact q1 (fun l h e => nomatch e)
  | some l =>
    cases hi with
    | none =>
      simp only [oV, tCompSet,tRaise,tIsi,tSeq,tAsg,gName,tOp,tUn,tVar,tC,tTest,tB,tIf,tIfS,tAnd,tOr,tNot,tAndV,tOrV,tNotV,tRet,tRetN,tNext,tDrop,tCB,tCons,tNil,tBM,tBM0,tCall,tLst,tTup,tSl,tPart,tNoPart,tIsN,tNotN,tYes,tBreak,tCont,rI0,rI,rU,rEq,rNe,L2.start,compSt,List.map_cons,List.map_nil,List.length_cons,List.length_nil,List.replicate_succ,List.replicate_zero,List.cons_append,List.nil_append,List.append_nil,List.getElem?_cons_zero,List.getElem?_cons_succ,List.set_cons_zero,List.set_cons_succ,Option.some.injEq,Option.join_some,V.int.injEq,V.str.injEq,V.bl.injEq,V.ref.injEq,txt_inj,exists_eq_left',exists_eq_left,exists_and_left,and_true,true_and,decide_eq_true_eq,reduceCtorEq,decide_false,decide_true,Bool.not_false,Bool.not_true,if_true,if_false,Bool.false_eq_true,Nat.reduceAdd,Nat.reduceSub,Bool.not_eq_true',decide_eq_false_iff_not,not_true_eq_false,not_false_eq_true]
      exact q1 (fun l h _ e => nomatch e)
    | some h =>
      simp only [oV, tCompSet,tRaise,tIsi,tSeq,tAsg,gName,tOp,tUn,tVar,tC,tTest,tB,tIf,tIfS,tAnd,tOr,tNot,tAndV,tOrV,tNotV,tRet,tRetN,tNext,tDrop,tCB,tCons,tNil,tBM,tBM0,tCall,tLst,tTup,tSl,tPart,tNoPart,tIsN,tNotN,tYes,tBreak,tCont,rI0,rI,rU,rEq,rNe,L2.start,compSt,List.map_cons,List.map_nil,List.length_cons,List.length_nil,List.replicate_succ,List.replicate_zero,List.cons_append,List.nil_append,List.append_nil,List.getElem?_cons_zero,List.getElem?_cons_succ,List.set_cons_zero,List.set_cons_succ,Option.some.injEq,Option.join_some,V.int.injEq,V.str.injEq,V.bl.injEq,V.ref.injEq,txt_inj,exists_eq_left',exists_eq_left,exists_and_left,and_true,true_and,decide_eq_true_eq,reduceCtorEq,decide_false,decide_true,Bool.not_false,Bool.not_true,if_true,if_false,Bool.false_eq_true,Nat.reduceAdd,Nat.reduceSub,Bool.not_eq_true',decide_eq_false_iff_not,not_true_eq_false,not_false_eq_true]
      refine ⟨l, h, rfl, rfl, _, rfl, ?_⟩
      by_cases hl : l < h
      · rw [decide_eq_true hl, if_neg (by decide)]
        exact q1 (fun l' h' e1 e2 => by cases e1; cases e2; exact hl)
      · rw [decide_eq_false hl, if_pos (by decide)]
        exact ⟨by decide, q2 (fun z => hl (z l h rfl rfl))⟩
def roomI (L : Nat) (es : List Nat) (lo hi : Option (List Nat)) (n : Nat) : Int := (ob L es (aheadN hi (highO L hi n) n) : Nat) - (ob L es (valO L lo n + 1) : Nat)
def roomB (b : Bool) (L : Nat) (es : List Nat) (lo hi : Option (List Nat)) (n : Nat) : Int := (ob L es (aheadB b hi (highO L hi n) n) : Nat) - (ob L es (valO L lo n + 1) : Nat)
theorem roomB_true (L : Nat) (es : List Nat) (lo hi : Option (List Nat)) (n : Nat) : roomB true L es lo hi n = roomI L es lo hi n := rfl
def spCounted : Sp := fun vs H Q _ => ∃ (L : Nat) (es : List Nat) (lo hi : Option (List Nat)) (n : Nat) (b : Bool), vs = [.int L, .str (txt es), oV lo, oV hi, .int n, .bl b] ∧ 0 < L ∧ L ≤ 26 ∧ es.length ≤ 26 ∧ OkO lo ∧ OkO hi ∧ n ≤ 100000 ∧ ∀ H', Same H H' → Q (.int (roomB b L es lo hi n)) H'
def rdCounted : TS :=
    tSeq (tAsg (tCall spWhole [] E0 (tCons (tVar 0) (tCons (tVar 2) (tCons (tVar 4) tNil)))) (gName 6))
      (tSeq (tAsg (tCall spHigh [] E0 (tCons (tVar 0) (tCons (tVar 3) (tCons (tVar 4) tNil)))) (gName 7))
      (tSeq (tAsg (tCall spAhead [] E0 (tCons (tVar 0) (tCons (tVar 1) (tCons (tVar 3) (tCons (tVar 7) (tCons (tVar 4) (tCons (tVar 5) tNil))))))) (gName 8))
      (tRet (tOp rSubI (tVar 8) (tCall spUpLow [] E0 (tCons (tVar 0) (tCons (tVar 1) (tCons (tVar 6) tNil))))))))
theorem read_counted {N : List Str} {vs : List V} {H : Hp} {Q : VK} {E : XK} (hN : N.length = 9) (h : spCounted vs H Q E) : rdCounted { nx := fun _ H' => Q .non H', rt := Q } (L2.start N vs) H := by
  obtain ⟨L, es, lo, hi, n, b, rfl, l0, l26, hes, olo, ohi, hn, q⟩ := h
  unfold rdCounted L2.start
  rw [hN]
  and_intros
  refine ⟨L, lo, n, rfl, l26, olo, hn, ?_⟩
  refine ⟨L, hi, n, rfl, l26, ohi, hn, ?_⟩
  refine ⟨L, _, hi, _, n, b, rfl, l0, l26, hes, ohi, fun H2 s2 => ?_⟩
  refine ⟨L, _, _, rfl, l0, l26, hes, fun H3 s3 => ?_⟩
  and_intros
  exact q _ (s2.trans s3)
structure RoomIn (L h j : Nat) (lo hi : Option (List Nat)) (n : Nat) : Prop where
  l0 : 0 < L
  l26 : L ≤ 26
  h0 : 0 < h
  lo : OkO lo
  hi : OkO hi
  n : n ≤ 100000
theorem endsL_len {L h j : Nat} (hL : L ≤ 26) : (endsL L h j).length ≤ 26 := by
  unfold endsL
  rw [List.length_map]
  exact Nat.le_trans (List.length_filter_le _ _) (by rw [List.length_range]; omega)
def spNth (c : Addr) : Sp := fun vs H Q E => ∃ (L h j : Nat) (lo hi : Option (List Nat)) (n k : Nat), vs = [.int L, .int h, .int j, oV lo, oV hi, .int n, .int k] ∧ RoomIn L h j lo hi n ∧ j < h ∧ h + 1 ≤ L ∧
  (OkLH lo hi → ∀ H', Same H H' → Q (.str (txt (mk L (nth L (endsL L h j) (ob L (endsL L h j) (valO L lo n + 1) + k)) n))) H') ∧ (¬ OkLH lo hi → E (.ref c) none H)
def rdNth (K : PySem.W.Frag) (c : Addr) (E : XK) : TS :=
    tSeq (tDrop (tCall (spAskRoom c) [] E (tCons (tVar 3) (tCons (tVar 4) tNil))))
      (tSeq (tAsg (tCall spEnds [] E0 (tCons (tVar 0) (tCons (tVar 1) (tCons (tVar 2) tNil)))) (gName 7))
      (tSeq (tAsg (tCall spWhole [] E0 (tCons (tVar 0) (tCons (tVar 3) (tCons (tVar 5) tNil)))) (gName 8))
      (tSeq (tAsg (tOp rAddI (tCall spUpLow [] E0 (tCons (tVar 0) (tCons (tVar 7) (tCons (tVar 8) tNil)))) (tVar 6)) (gName 9))
      (tSeq (tAsg (tBM K "str" rIndex (tC (.str (txt ABC))) (tCons (tOp rIxStr (tVar 7) (tOp rModI (tVar 9) (tCB rLenS (tCons (tVar 7) tNil)))) tNil)) (gName 10))
      (tRet (tCall spMarkOf [] E0 (tCons (tVar 0) (tCons (tOp rAddI (tOp rMulI (tOp rDivI (tVar 9) (tCB rLenS (tCons (tVar 7) tNil))) (tVar 0)) (tVar 10)) (tCons (tVar 5) tNil)))))))))
theorem read_nth {K : PySem.W.Frag} {c : Addr} {N : List Str} {vs : List V} {H : Hp} {Q : VK} {E : XK} (hN : N.length = 11) (h : spNth c vs H Q E) : rdNth K c E { nx := fun _ H' => Q .non H', rt := Q } (L2.start N vs) H := by
  obtain ⟨L, h, j, lo, hi, n, k, rfl, R, hj, hh, q1, q2⟩ := h
  unfold rdNth L2.start
  rw [hN]
  and_intros
  refine ⟨lo, hi, rfl, fun ok => ?_, q2⟩
  have q1 := q1 ok
  and_intros
  refine ⟨L, h, j, rfl, R.l26, R.h0, fun H1 s1 => ?_⟩
  have EN := ends_ok hj hh
  have hel := endsL_len (h := h) (j := j) R.l26
  generalize endsL L h j = es at q1 EN hel ⊢
  refine ⟨L, lo, n, rfl, R.l26, R.lo, R.n, ?_⟩
  refine ⟨L, _, _, rfl, R.l0, R.l26, hel, fun H2 s2 => ?_⟩
  and_intros
  generalize ob L es (valO L lo n + 1) = p0 at q1 ⊢
  have hp : 0 < es.length := List.length_pos_iff.mpr EN.ne
  refine ⟨rfl, lenS_go (by omega) ⟨_, rfl, by omega, ?_⟩⟩
  have e1 : ((p0 : Int) + (k : Int)) % (es.length : Int) = (((p0 + k) % es.length : Nat) : Int) := by rw [← Int.natCast_add]; exact (Int.natCast_emod _ _).symm
  have e2 : ((p0 : Int) + (k : Int)) / (es.length : Int) = (((p0 + k) / es.length : Nat) : Int) := by rw [← Int.natCast_add]; exact (Int.natCast_ediv _ _).symm
  have hm := Nat.mod_lt (p0 + k) hp
  obtain ⟨c0, hc0⟩ := some_at hm
  have hcm := List.mem_of_getElem? hc0
  have c1 := EN.lo c0 hcm
  have c2 := EN.hi c0 hcm
  have l26 := R.l26
  rw [e1]
  refine ixS_go (by omega) (by omega) (by rw [Int.toNat_natCast]; exact hc0) (idxABC_go (by omega) (by omega) ?_)
  and_intros
  refine lenS_go (by omega) ⟨_, rfl, cdiv (by omega) (by omega), mulB_r (by omega) (by omega), ?_⟩
  rw [e2]
  refine ⟨L, nth L es (p0 + k), n, ?_, R.l0, R.l26, R.n, q1 _ (s1.trans s2)⟩
  unfold nth
  rw [List.getD_eq_getElem?_getD, hc0, Int.natCast_add, Int.natCast_mul]
  rfl
end L2
set_option Elab.async false
set_option linter.all false
set_option maxRecDepth 100000
set_option maxHeartbeats 4000000
namespace L2
open PySem PySem.Spec PyProof.Rows MM
structure MarksOk (L : Nat) (lo hi : Option (List Nat)) : Prop where
  mlo : ∀ m, lo = some m → Mark L m ∧ m.length ≤ 1000
  mhi : ∀ m, hi = some m → Mark L m ∧ m.length ≤ 1000
def lenO : Option (List Nat) → Nat
  | none => 0
  | some l => l.length
structure Hands (L h j : Nat) : Prop where
  l2 : 2 ≤ L
  l26 : L ≤ 26
  hj : j < h
  hh : h + 1 ≤ L
structure LeastB (b : Bool) (L : Nat) (es : List Nat) (lo hi : Option (List Nat)) (k n : Nat) : Prop where
  pos : 1 ≤ n
  len : n ≤ 1 + lenO lo + k ∨ n ≤ 1 + lenO hi + k
  room : (k : Int) ≤ roomB b L es lo hi n
  less : ∀ m, 1 ≤ m → m < n → roomB b L es lo hi m < k
theorem LeastB.one {b : Bool} {L : Nat} {es : List Nat} {lo hi : Option (List Nat)} {k n m : Nat} (A : LeastB b L es lo hi k n) (B : LeastB b L es lo hi k m) : n = m := by
  rcases Nat.lt_trichotomy n m with h | h | h
  · have := B.less n A.pos h
    have := A.room
    omega
  · exact h
  · have := A.less m B.pos h
    have := B.room
    omega
theorem MarksOk.okO {L : Nat} {lo hi : Option (List Nat)} (M : MarksOk L lo hi) (hL : L ≤ 26) : OkO lo ∧ OkO hi := by
  constructor
  · cases lo with
    | none => trivial
    | some m => exact ⟨(M.mlo m rfl).1.ls.mono hL, by have := (M.mlo m rfl).2; omega⟩
  · cases hi with
    | none => trivial
    | some m => exact ⟨(M.mhi m rfl).1.ls.mono hL, by have := (M.mhi m rfl).2; omega⟩
theorem MarksOk.roomIn {L h j n : Nat} {lo hi : Option (List Nat)} (M : MarksOk L lo hi) (D : Hands L h j) (hn : n ≤ 100000) : RoomIn L h j lo hi n :=
  ⟨by have := D.l2; omega, D.l26, by have := D.hj; omega, (M.okO D.l26).1, (M.okO D.l26).2, hn⟩
theorem MarksOk.lens {L : Nat} {lo hi : Option (List Nat)} (M : MarksOk L lo hi) : lenO lo ≤ 1000 ∧ lenO hi ≤ 1000 := by
  constructor
  · cases lo with
    | none => exact Nat.zero_le _
    | some m => exact (M.mlo m rfl).2
  · cases hi with
    | none => exact Nat.zero_le _
    | some m => exact (M.mhi m rfl).2
theorem highO_succ (L : Nat) (o : Option (List Nat)) (n : Nat) : highO L o (n + 1) = highO L o n * L + figO o n := by
  cases o with
  | none => show L ^ (n + 1) = L ^ n * L + 0; rw [Nat.pow_succ]; rfl
  | some l => exact val_succ L l n
theorem figO_end {o : Option (List Nat)} {n : Nat} (h : lenO o ≤ n) : figO o n = 0 := by
  cases o with
  | none => rfl
  | some l => show fig l n = 0; unfold fig; rw [List.getElem?_eq_none h]
theorem val_apart {L n : Nat} (hL : 0 < L) {lo hi : Option (List Nat)} (M : MarksOk L lo hi) (ok : OkLH lo hi) (h1 : lenO lo ≤ n) (h2 : lenO hi ≤ n) : valO L lo n < highO L hi n := by
  cases lo with
  | none =>
    cases hi with
    | none => exact Nat.pow_pos hL
    | some h => exact val_pos hL n (M.mhi h rfl).1.ls (M.mhi h rfl).1.na (M.mhi h rfl).1.ne h2
  | some l =>
    cases hi with
    | none => exact val_lt hL n (M.mlo l rfl).1.ls
    | some h => exact (lt_val hL n (M.mlo l rfl).1.ls (M.mhi h rfl).1.ls (M.mlo l rfl).1.na (M.mhi h rfl).1.na h1 h2).mp (ok l h rfl rfl)
theorem val_wide {L n : Nat} (hL : 2 ≤ L) {lo hi : Option (List Nat)} (M : MarksOk L lo hi) (ok : OkLH lo hi) (h1 : lenO lo ≤ n) (h2 : lenO hi ≤ n) : ∀ t, valO L lo (n + t) + (t + 1) ≤ highO L hi (n + t)
  | 0 => val_apart (by omega) M ok h1 h2
  | t + 1 => by
    have ih := val_wide hL M ok h1 h2 t
    rw [show n + (t + 1) = n + t + 1 by omega, valO_succ, highO_succ, figO_end (by omega), figO_end (by omega), Nat.add_zero, Nat.add_zero]
    have := Nat.mul_le_mul_right L ih
    rw [Nat.add_mul] at this
    have h3 : (t + 1) * 2 ≤ (t + 1) * L := Nat.mul_le_mul_left _ hL
    omega
theorem ob_blocks {L : Nat} {es : List Nat} (hL : 0 < L) (E : MM.Ends L es) (v d : Nat) : ob L es (v * L + 1) + d ≤ ob L es ((v + d) * L) := by
  have hp : 0 < es.length := List.length_pos_iff.mpr E.ne
  obtain ⟨e, he⟩ := List.exists_mem_of_ne_nil _ E.ne
  have h1 := E.lo e he
  have h2 := E.hi e he
  have m1 : (v * L + 1) / L = v := by rw [Nat.mul_comm, Nat.mul_add_div hL, Nat.div_eq_of_lt (by omega)]; rfl
  have m2 : (v * L + 1) % L = 1 := by rw [Nat.mul_comm, Nat.mul_add_mod, Nat.mod_eq_of_lt (by omega)]
  unfold ob
  rw [m1, m2, Nat.mul_div_cancel _ hL, Nat.mul_mod_left, Nat.add_zero, cnt_low E.lo]
  have : MM.cnt es (97 + 1) = 0 := by
    unfold MM.cnt
    rw [List.length_eq_zero_iff, List.filter_eq_nil_iff]
    intro e he; have := E.lo e he; simp only [decide_eq_true_eq]; omega
  rw [this, Nat.add_mul]
  have := Nat.le_mul_of_pos_right d hp
  omega
theorem room_last {b : Bool} {L n k : Nat} {es : List Nat} (hL : 2 ≤ L) (E : MM.Ends L es) {lo hi : Option (List Nat)} (M : MarksOk L lo hi) (ok : OkLH lo hi) (h1 : lenO lo ≤ n) (h2 : lenO hi ≤ n) : (k : Int) ≤ roomB b L es lo hi (n + k + 1) := by
  have hv := val_wide hL M ok h1 h2 k
  have hL0 : 0 < L := by omega
  have ea : aheadB b hi (highO L hi (n + k + 1)) (n + k + 1) = highO L hi (n + k + 1) := by
    cases b with
    | false => rfl
    | true =>
      cases hi with
      | none => rfl
      | some h =>
        show (if n + k + 1 < h.length then _ else _) = _
        have h2 : h.length ≤ n := h2
        rw [if_neg (by omega)]
  unfold roomB
  rw [ea, highO_succ, valO_succ, figO_end (by omega), figO_end (by omega), Nat.add_zero, Nat.add_zero]
  have b := ob_blocks hL0 E (valO L lo (n + k)) k
  have m := ob_mono hL0 E (Nat.mul_le_mul_right L (show valO L lo (n + k) + k ≤ highO L hi (n + k) by omega))
  omega
theorem room_last1 {b : Bool} {L n : Nat} {es : List Nat} (hL : 2 ≤ L) (E : MM.Ends L es) {lo hi : Option (List Nat)} (M : MarksOk L lo hi) (ok : OkLH lo hi) (h1 : lenO lo ≤ n) (h2 : lenO hi ≤ n) : 0 < roomB b L es lo hi (n + 1) := by
  have hv := val_apart (by omega) M ok h1 h2
  have hL0 : 0 < L := by omega
  have ea : aheadB b hi (highO L hi (n + 1)) (n + 1) = highO L hi (n + 1) := by
    cases b with
    | false => rfl
    | true =>
      cases hi with
      | none => rfl
      | some h =>
        show (if n + 1 < h.length then _ else _) = _
        have h2 : h.length ≤ n := h2
        rw [if_neg (by omega)]
  unfold roomB
  rw [ea, highO_succ, valO_succ, figO_end h1, figO_end h2, Nat.add_zero, Nat.add_zero]
  have b := ob_blocks hL0 E (valO L lo n) 1
  have m := ob_mono hL0 E (Nat.mul_le_mul_right L (show valO L lo n + 1 ≤ highO L hi n by omega))
  omega
theorem LeastB.len1 {b : Bool} {L n : Nat} {es : List Nat} {lo hi : Option (List Nat)} (A : LeastB b L es lo hi 1 n) (hL : 2 ≤ L) (E : MM.Ends L es) (M : MarksOk L lo hi) (ok : OkLH lo hi) : n ≤ 1 + max (lenO lo) (lenO hi) := by
  rcases Nat.lt_or_ge (1 + max (lenO lo) (lenO hi)) n with z | z
  · have r := room_last1 (b := b) hL E M ok (n := max (lenO lo) (lenO hi)) (Nat.le_max_left _ _) (Nat.le_max_right _ _)
    have := A.less (max (lenO lo) (lenO hi) + 1) (by omega) (by omega)
    omega
  · exact z
def spLeastC : Sp := fun vs H Q _ => ∃ (L : Nat) (es : List Nat) (lo hi : Option (List Nat)) (k : Nat) (b : Bool), vs = [.int L, .str (txt es), oV lo, oV hi, .int k, .bl b] ∧ 2 ≤ L ∧ L ≤ 26 ∧ es.length ≤ 26 ∧ MM.Ends L es ∧ MarksOk L lo hi ∧ OkLH lo hi ∧ 1 ≤ k ∧ k ≤ 10000 ∧ ∀ H' n, Same H H' → LeastB b L es lo hi k n → Q (.int n) H'
def rdLeastC : TS :=
    tSeq (tAsg (tC (.int 0)) (gName 6))
      (tSeq (tAsg (tC (.int 0)) (gName 7))
      (tSeq (tAsg (tC (.int 0)) (gName 8))
      (tSeq (tAsg (tCall spHigh [] E0 (tCons (tVar 0) (tCons (tVar 3) (tCons (tC (.int 0)) tNil)))) (gName 9))
      (tSeq (tWhile (tTest (tOp rLtI (tVar 7) (tVar 4))) (tSeq (tAsg (tOp rAddI (tOp rMulI (tVar 8) (tVar 0)) (tCall spFig [] E0 (tCons (tVar 2) (tCons (tVar 6) tNil)))) (gName 8))
      (tSeq (tAsg (tOp rAddI (tOp rMulI (tVar 9) (tVar 0)) (tCall spFig [] E0 (tCons (tVar 3) (tCons (tVar 6) tNil)))) (gName 9))
      (tSeq (tAsg (tOp rAddI (tVar 6) (tC (.int 1))) (gName 6))
      (tSeq (tAsg (tCall spAhead [] E0 (tCons (tVar 0) (tCons (tVar 1) (tCons (tVar 3) (tCons (tVar 9) (tCons (tVar 6) (tCons (tVar 5) tNil))))))) (gName 10))
      (tAsg (tOp rSubI (tVar 10) (tCall spUpLow [] E0 (tCons (tVar 0) (tCons (tVar 1) (tCons (tVar 8) tNil))))) (gName 7)))))))
      (tRet (tVar 6))))))
theorem read_leastC {N : List Str} {vs : List V} {H : Hp} {Q : VK} {E : XK} (hN : N.length = 11) (h : spLeastC vs H Q E) : rdLeastC { nx := fun _ H' => Q .non H', rt := Q } (L2.start N vs) H := by
  obtain ⟨L, es, lo, hi, k, b, rfl, hl2, hl26, hel, EN, M, ok, hk1, hk2, q1⟩ := h
  unfold rdLeastC L2.start
  rw [hN]
  have hL0 : 0 < L := by omega
  obtain ⟨okl, okh⟩ := M.okO hl26
  have hlen := M.lens
  and_intros
  refine ⟨L, hi, 0, rfl, hl26, okh, by omega, ?_⟩
  have rl := room_last (b := b) (n := max (lenO lo) (lenO hi)) (k := k) hl2 EN M ok (Nat.le_max_left _ _) (Nat.le_max_right _ _)
  have mx : max (lenO lo) (lenO hi) = lenO lo ∨ max (lenO lo) (lenO hi) = lenO hi := by omega
  generalize max (lenO lo) (lenO hi) = N1 at rl mx
  obtain ⟨N0, hN0⟩ : ∃ N0, N0 = N1 + k := ⟨_, rfl⟩
  rw [← hN0] at rl
  refine while_of (fun m σ H' => ∃ (n : Nat) (r : Int) (v10 : Option V), Same H H' ∧ σ = [some (.int L), some (.str (txt es)), some (oV lo), some (oV hi), some (.int k), some (.bl b), some (.int n), some (.int r), some (.int (valO L lo n : Nat)), some (.int (highO L hi n : Nat)), v10] ∧ n ≤ N0 + 1 ∧ m = N0 + 1 - n ∧ ((n = 0 ∧ r = 0) ∨ (1 ≤ n ∧ r = roomB b L es lo hi n)) ∧ ∀ m', 1 ≤ m' → m' < n → roomB b L es lo hi m' < k) (N0 + 1)
    ⟨0, 0, none, Same.refl _, by rw [valO_zero]; rfl, by omega, by omega, .inl ⟨rfl, rfl⟩, fun m' h1 h2 => by omega⟩ ?_
  rintro m σ H2 ⟨n, r, v10, s2, rfl, hn, hm, hr, hp⟩ R hgo hstop
  and_intros
  by_cases hr1 : r < k
  · rw [decide_eq_true hr1]
    refine hgo H2 ?_
    have hnN : n ≤ N0 := by
      by_cases z : n = N0 + 1
      · subst z
        rcases hr with ⟨z, _⟩ | ⟨_, z⟩
        · omega
        · omega
      · omega
    and_intros
    refine ⟨mulB_r (by omega) (by omega), lo, n, rfl, okl, ?_⟩
    and_intros
    refine ⟨mulB_r (by omega) (by omega), hi, n, rfl, okh, ?_⟩
    and_intros
    have e1 : ((valO L lo n : Nat) : Int) * (L : Int) + (figO lo n : Nat) = (valO L lo (n + 1) : Nat) := by rw [valO_succ, Int.natCast_add, Int.natCast_mul]
    have e2 : ((highO L hi n : Nat) : Int) * (L : Int) + (figO hi n : Nat) = (highO L hi (n + 1) : Nat) := by rw [highO_succ, Int.natCast_add, Int.natCast_mul]
    have e3 : (n : Int) + 1 = ((n + 1 : Nat) : Int) := rfl
    rw [e1, e2, e3]
    refine ⟨L, es, hi, _, n + 1, b, rfl, hL0, hl26, hel, okh, fun H3 s3 => ?_⟩
    refine ⟨L, es, _, rfl, hL0, hl26, hel, fun H4 s4 => ?_⟩
    and_intros
    refine ⟨N0 + 1 - (n + 1), by omega, (s2.trans s3).trans s4, n + 1, roomB b L es lo hi (n + 1), _, rfl, by omega, rfl, .inr ⟨by omega, rfl⟩, fun m' h1 h2 => ?_⟩
    by_cases z : m' = n
    · subst z
      rcases hr with ⟨z, _⟩ | ⟨_, z⟩
      · omega
      · omega
    · exact hp m' h1 (by omega)
  · rw [decide_eq_false hr1]
    refine hstop H2 ?_
    and_intros
    rcases hr with ⟨z, z2⟩ | ⟨z, rfl⟩
    · omega
    · exact q1 _ n s2 ⟨z, by omega, by omega, hp⟩
def toldI : Option (List Nat) → Option (List Nat) → Int → Int
  | some _, none, _ => 0
  | none, some _, z => z - 1
  | _, _, z => (z - 1) / 2
structure Found (L : Nat) (es : List Nat) (lo hi : Option (List Nat)) (n w : Nat) (m : List Nat) : Prop where
  least : LeastB true L es lo hi 1 n
  eq : m = low L w n
  own : ow L es w = true
  ge : valO L lo n + 1 ≤ w
  lt : w < aheadN hi (highO L hi n) n
  at_ : (ob L es w : Int) = (ob L es (valO L lo n + 1) : Int) + toldI lo hi (roomI L es lo hi n)
theorem told_in (lo hi : Option (List Nat)) {z : Int} (h : 0 < z) : 0 ≤ toldI lo hi z ∧ toldI lo hi z < z := by
  cases lo <;> cases hi <;> simp only [toldI] <;> omega
theorem own_iff {L h j : Nat} (hL : 0 < L) (w : Nat) : ow L (endsL L h j) w = true ↔ 0 < w % L ∧ (w % L - 1) % h = j := by
  unfold ow
  rw [decide_eq_true_iff, endsL_mem]
  have := Nat.mod_lt w hL
  constructor
  · rintro ⟨i, h1, h2, h3⟩
    have : w % L = i + 1 := by omega
    rw [this]
    exact ⟨by omega, h2⟩
  · rintro ⟨h1, h2⟩
    exact ⟨w % L - 1, by omega, h2, by omega⟩
theorem low_iff {L w n : Nat} (hL : 0 < L) (hw : w < L ^ (n + 1)) (h0 : w % L ≠ 0) {l : List Nat} (hl : Ls L l) : l < low L w (n + 1) ↔ val L l (n + 1) + 1 ≤ w := by
  rw [low_val hL (n + 1) hl (low_ls hL _ _) (fun c hc => by rw [low_last hL] at hc; have := Option.some.inj hc; omega) (low_length _ _ _), low_val_eq hL, Nat.mod_eq_of_lt hw]
  omega
theorem high_iff {L w n : Nat} (hL : 0 < L) (hw : w < L ^ n) {h : List Nat} (hh : Ls L h) (na : Na h) : low L w n < h ↔ w < aheadN (some h) (val L h n) n := by
  rw [high_val hL n hh (low_ls hL _ _) na (low_length _ _ _), low_val_eq hL, Nat.mod_eq_of_lt hw]
  have e : aheadN (some h) (val L h n) n = if n < h.length then val L h n + 1 else val L h n := rfl
  rw [e]
  by_cases z : n < h.length
  · rw [if_pos z]; omega
  · rw [if_neg z]; omega
theorem ahead_le {L : Nat} (n : Nat) (hL : 0 < L) {lo hi : Option (List Nat)} (M : MarksOk L lo hi) : aheadN hi (highO L hi n) n ≤ L ^ n := by
  cases hi with
  | none => exact Nat.le_refl _
  | some h =>
    have v := val_lt hL n (M.mhi h rfl).1.ls
    show (if n < h.length then val L h n + 1 else val L h n) ≤ L ^ n
    split <;> omega
end L2
set_option Elab.async false
set_option linter.all false
set_option maxRecDepth 100000
set_option maxHeartbeats 4000000
namespace L2
open PySem PySem.Spec PyProof.Rows MM
def rdDraw2 (K : PySem.W.Frag) : TS :=
    tSeq (tAsg (tIf (tTest (tOp rGtI (tCB (rLenL K) (tCons (tVar 0) tNil)) (tC (.int 0)))) (tOp (rIxL K) (tVar 0) (tOp rModI (tVar 1) (tCB (rLenL K) (tCons (tVar 0) tNil)))) (tC (.int 0))) (gName 3))
      (tSeq (tIfS (tAnd (tTest (tOp rGtI (tCB (rLenL K) (tCons (tVar 0) tNil)) (tC (.int 0)))) (tTest (tOp rEq (tOp rModI (tOp rDivI (tOp (rIxL K) (tVar 0) (tC (.int 0))) (tC (.int 7))) (tC (.int 2))) (tC (.int 1))))) (tSeq (tFor (iRng1 (tCons (tOp rModI (tOp rDivI (tVar 1) (tCB (rLenL K) (tCons (tVar 0) tNil))) (tC (.int 60))) tNil)) (gName 4) (tAsg (tOp rDivI (tVar 3) (tC (.int 1000003))) (gName 3)))
      (tRet (tOp rModI (tOp rModI (tVar 3) (tC (.int 1000003))) (tVar 2)))) (tNext))
      (tSeq (tAsg (tOp rAddI (tOp rAddI (tOp rModI (tVar 3) (tC (.int 1000003))) (tOp rMulI (tOp rMulI (tC (.int 31)) (tVar 1)) (tVar 1))) (tC (.int 1))) (gName 5))
      (tRet (tOp rModI (tOp rModI (tOp rMulI (tOp rModI (tOp rMulI (tVar 5) (tC (.int 48271))) (tC (.int 999983))) (tC (.int 7919))) (tC (.int 524287))) (tVar 2)))))
theorem read_draw2 {K : PySem.W.Frag} {N : List Str} {vs : List V} {H : Hp} {Q : VK} {E : XK} (hN : N.length = 6) (h : spDraw K vs H Q E) : rdDraw2 K { nx := fun _ H' => Q .non H', rt := Q } (L2.start N vs) H := by
  obtain ⟨a, ns, k, m, rfl, hS, hl, h0, h1, h2, q⟩ := h
  unfold rdDraw2 L2.start
  rw [hN]
  and_intros
  refine lenI_go hS ⟨_, rfl, ?_⟩
  by_cases hn : (0 : Int) < (ns.length : Int)
  · rw [if_pos hn]
    refine lenI_go hS ⟨_, rfl, hn, ixI_go hS (Int.emod_nonneg _ (by omega)) (Int.emod_lt_of_pos _ hn) fun z _ _ => ?_⟩
    refine lenI_go hS ⟨_, rfl, ?_⟩
    rw [if_pos hn]
    refine ixI_go hS (by decide) hn fun z0 _ _ => ⟨_, rfl, cdiv (by decide) (by decide), by decide, rfl, ?_⟩
    split
    · have e0 : 0 ≤ k / (ns.length : Int) % 60 := Int.emod_nonneg _ (by decide)
      have e1 : k / (ns.length : Int) % 60 < 60 := Int.emod_lt_of_pos _ (by decide)
      refine for_r1 (j := k / (ns.length : Int) % 60) (fun Q h => by
        and_intros
        exact lenI_go hS ⟨_, rfl, cdiv hn (by omega), by decide, h⟩) (by omega) (by omega) (fun i σ H' => H' = H ∧ ∃ (c : Int) (v4 : Option V), σ = [some (.ref a), some (.int k), some (.int m), some (.int c), v4, none]) ⟨rfl, _, _, rfl⟩ ?_ ?_
      · rintro i σ H1 hi ⟨rfl, c, v4, rfl⟩
        and_intros
        exact ⟨cdiv (by decide) (by decide), _, _, rfl⟩
      · rintro σ H1 ⟨rfl, c, v4, rfl⟩
        and_intros
        exact ⟨by decide, h2, q _ (Int.emod_nonneg _ (by omega)) (Int.emod_lt_of_pos _ h2)⟩
    · exact ⟨_, rfl, draw_end (Q := fun r => Q (.int r) H) h0 h1 h2 q⟩
  · rw [if_neg hn]
    refine lenI_go hS ⟨_, rfl, ?_⟩
    rw [if_neg hn]
    exact draw_end (Q := fun r => Q (.int r) H) h0 h1 h2 q
end L2
set_option Elab.async false
set_option linter.all false
set_option maxRecDepth 100000
set_option maxHeartbeats 4000000
namespace L2
open PySem PySem.Spec PyProof.Rows MM
theorem even_ge {i k R : Nat} (h : k ≤ R) : i + 1 ≤ (i + 1) * (R + 1) / (k + 1) := by
  rw [Nat.le_div_iff_mul_le (by omega)]
  exact Nat.mul_le_mul_left _ (by omega)
theorem even_lt {i k R : Nat} (h : i < k) : (i + 1) * (R + 1) / (k + 1) < R + 1 := by
  rw [Nat.div_lt_iff_lt_mul (by omega), Nat.mul_comm (R + 1)]
  exact Nat.mul_lt_mul_of_pos_right (by omega) (by omega)
theorem even_rise {i k R : Nat} (h : k ≤ R) : (i + 1) * (R + 1) / (k + 1) + 1 ≤ (i + 1 + 1) * (R + 1) / (k + 1) := by
  rw [Nat.le_div_iff_mul_le (by omega), Nat.add_mul, Nat.one_mul, Nat.add_mul (i + 1) 1, Nat.one_mul]
  have := Nat.div_mul_le_self ((i + 1) * (R + 1)) (k + 1)
  omega
end L2
set_option Elab.async false
set_option linter.all false
set_option maxRecDepth 100000
set_option maxHeartbeats 4000000
namespace L2
open PySem PySem.Spec PyProof.Rows MM
structure IsRen (L m n : Nat) : Prop where
  lt : m < L ^ n
  less : ∀ i, i < n → L ^ i ≤ m
theorem IsRen.one {L m a b : Nat} (A : IsRen L m a) (B : IsRen L m b) : a = b := by
  rcases Nat.lt_trichotomy a b with h | h | h
  · have := B.less a h; have := A.lt; omega
  · exact h
  · have := A.less b h; have := B.lt; omega
theorem IsRen.le {L m n : Nat} (A : IsRen L m n) (hL : 2 ≤ L) : n ≤ m := by
  rcases Nat.lt_or_ge m n with h | h
  · have h1 := A.less m h
    have := Nat.lt_pow_self (n := m) (show 1 < L by omega)
    omega
  · exact h
def renW (L m n k : Nat) : Nat := (k + 1) * L ^ n / (m + 1)
def renL (L m n : Nat) : List (List Nat) := (List.range m).map fun k => mk L (renW L m n k) n
theorem renW_in {L m n k : Nat} (R : IsRen L m n) (hk : k < m) : 0 < renW L m n k ∧ renW L m n k < L ^ n := by
  have h := R.lt
  obtain ⟨r, hr⟩ : ∃ r, L ^ n = r + 1 := ⟨L ^ n - 1, by omega⟩
  unfold renW
  rw [hr]
  have := even_ge (i := k) (k := m) (R := r) (by omega)
  have := even_lt (R := r) hk
  omega
theorem renW_rise {L m n k : Nat} (R : IsRen L m n) : renW L m n k < renW L m n (k + 1) := by
  have h := R.lt
  obtain ⟨r, hr⟩ : ∃ r, L ^ n = r + 1 := ⟨L ^ n - 1, by omega⟩
  unfold renW
  rw [hr]
  have := even_rise (i := k) (k := m) (R := r) (by omega)
  omega
theorem renW_lt {L m n i : Nat} (R : IsRen L m n) : ∀ {j : Nat}, i < j → renW L m n i < renW L m n j
  | j + 1, h => by
    have h1 := renW_rise (k := j) R
    rcases Nat.eq_or_lt_of_le (Nat.le_of_lt_succ h) with e | h2
    · subst e; exact h1
    · exact Nat.lt_trans (renW_lt R h2) h1
theorem renL_lt {L m n : Nat} (hL : 0 < L) (R : IsRen L m n) : (renL L m n).Pairwise (· < ·) := by
  unfold renL
  rw [List.pairwise_map]
  refine List.Pairwise.imp_of_mem ?_ (List.pairwise_lt_range (n := m))
  intro i j hi hj hij
  have hi := List.mem_range.mp hi
  have hj := List.mem_range.mp hj
  have a := renW_in R hi
  have b := renW_in R hj
  have c := renW_lt R hij
  rw [lt_val hL n (mk_ls hL _ _) (mk_ls hL _ _) (mk_na _ _ _) (mk_na _ _ _) (mk_len _ _ _) (mk_len _ _ _), mk_val hL a.2, mk_val hL b.2]
  exact c
theorem renL_mem {L m n : Nat} (hL : 0 < L) (R : IsRen L m n) : ∀ x ∈ renL L m n, Mark L x ∧ x.length ≤ n := fun x hx => by
  unfold renL at hx
  obtain ⟨k, hk, rfl⟩ := List.mem_map.mp hx
  have a := renW_in R (List.mem_range.mp hk)
  exact ⟨mk_mark hL a.1 a.2, mk_len _ _ _⟩
theorem renL_len (L m n : Nat) : (renL L m n).length = m := by
  unfold renL
  rw [List.length_map, List.length_range]
end L2
set_option Elab.async false
set_option linter.all false
set_option maxRecDepth 100000
set_option maxHeartbeats 4000000
namespace L2
open PySem PySem.Spec PyProof.Rows MM
def Prs (H : Hp) : List V → List (V × V) → Prop
  | [], [] => True
  | x :: xs, p :: ps => (∃ t, x = .ref t ∧ H t = some (.tup [p.1, p.2])) ∧ Prs H xs ps
  | _, _ => False
theorem Prs.keep {H H' : Hp} (k : ∀ t ys, H t = some (.tup ys) → H' t = some (.tup ys)) : ∀ {xs : List V} {ps : List (V × V)}, Prs H xs ps → Prs H' xs ps
  | [], [], _ => trivial
  | [], _ :: _, h => h.elim
  | _ :: _, [], h => h.elim
  | _ :: _, _ :: _, ⟨⟨t, e, h⟩, r⟩ => ⟨⟨t, e, k t _ h⟩, Prs.keep k r⟩
theorem Prs.same {H H' : Hp} {xs : List V} {ps : List (V × V)} (h : Prs H xs ps) (s : Same H H') : Prs H' xs ps := h.keep fun t ys e => s t _ e
theorem Prs.app {H : Hp} : ∀ {xs : List V} {ps : List (V × V)} {ys : List V} {qs : List (V × V)}, Prs H xs ps → Prs H ys qs → Prs H (xs ++ ys) (ps ++ qs)
  | [], [], _, _, _, h => h
  | [], _ :: _, _, _, h, _ => h.elim
  | _ :: _, [], _, _, h, _ => h.elim
  | _ :: _, _ :: _, _, _, ⟨a, r⟩, h => ⟨a, Prs.app r h⟩
theorem Prs.len {H : Hp} : ∀ {xs : List V} {ps : List (V × V)}, Prs H xs ps → xs.length = ps.length
  | [], [], _ => rfl
  | [], _ :: _, h => h.elim
  | _ :: _, [], h => h.elim
  | _ :: _, _ :: _, ⟨_, r⟩ => by rw [List.length_cons, List.length_cons, Prs.len r]
theorem Prs.get {H : Hp} : ∀ {xs : List V} {ps : List (V × V)} {i : Nat} {x : V}, Prs H xs ps → xs[i]? = some x → ∃ p t, ps[i]? = some p ∧ x = .ref t ∧ H t = some (.tup [p.1, p.2])
  | [], _, _, _, _, e => by simp at e
  | _ :: _, [], _, _, h, _ => h.elim
  | _ :: _, p :: _, 0, _, ⟨⟨t, e1, h⟩, _⟩, e => by
    have : _ = _ := Option.some.inj e
    subst this
    exact ⟨p, t, rfl, e1, h⟩
  | _ :: _, _ :: _, i + 1, _, ⟨_, r⟩, e => by
    obtain ⟨p, t, a, b, c⟩ := Prs.get r (i := i) (by simpa using e)
    exact ⟨p, t, by simpa using a, b, c⟩
def stand (ks : List (List Nat × Bool)) : Nat := (ks.filter fun k => k.2).length
end L2
set_option Elab.async false
set_option linter.all false
set_option maxRecDepth 100000
set_option maxHeartbeats 4000000
namespace L2
open PySem PySem.Spec PyProof.Rows MM
def spLetters (K : PySem.W.Frag) : Sp := fun vs H Q _ => ∃ (a : Addr) (ns : List Int), vs = [.ref a] ∧ SqL K H a (ns.map V.int) ∧ ns.length ≤ 63 ∧ ∀ H' (L : Nat), Same H H' → 2 ≤ L → L ≤ 26 → Q (.int L) H'
def rdLetters (K : PySem.W.Frag) : TS :=
    tRet (tOp (rIxL K) (tLst (tCons (tC (.int 2)) (tCons (tC (.int 3)) (tCons (tC (.int 4)) (tCons (tC (.int 10)) (tCons (tC (.int 26)) (tCons (tOp rAddI (tC (.int 2)) (tCall (spDraw K) [] E0 (tCons (tVar 0) (tCons (tC (.int 1)) (tCons (tC (.int 25)) tNil))))) tNil))))))) (tCall (spDraw K) [] E0 (tCons (tVar 0) (tCons (tC (.int 0)) (tCons (tC (.int 6)) tNil)))))
theorem read_letters {K : PySem.W.Frag} {N : List Str} {vs : List V} {H : Hp} {Q : VK} {E : XK} (hN : N.length = 1) (h : spLetters K vs H Q E) : rdLetters K { nx := fun _ H' => Q .non H', rt := Q } (L2.start N vs) H := by
  obtain ⟨sc, ns, rfl, hS, hl, q⟩ := h
  unfold rdLetters L2.start
  rw [hN]
  and_intros
  refine ⟨sc, ns, _, _, rfl, hS, hl, by decide, by decide, by decide, fun r hr0 hr1 => ?_⟩
  and_intros
  refine ⟨by decide, fun p hp => ?_⟩
  refine ⟨sc, ns, _, _, rfl, hS.up hp, hl, by decide, by decide, by decide, fun r' hr0' hr1' => ?_⟩
  refine ixI_go (ns := [2, 3, 4, 10, 26, 2 + r]) SqL.here hr0' (by simpa using hr1') fun z hz _ => ?_
  have hzb : 2 ≤ z ∧ z ≤ 26 := by
    simp only [List.mem_cons, List.not_mem_nil, or_false] at hz
    omega
  obtain ⟨L, rfl⟩ := Int.eq_ofNat_of_zero_le (a := z) (by omega)
  exact q _ L (Same.up _ hp) (by omega) (by omega)
def spMark41 (K : PySem.W.Frag) : Sp := fun vs H Q _ => ∃ (a : Addr) (ns : List Int) (b : Int) (L : Nat), vs = [.ref a, .int b, .int L] ∧ SqL K H a (ns.map V.int) ∧ ns.length ≤ 63 ∧ 0 ≤ b ∧ b ≤ 100000 ∧ 2 ≤ L ∧ L ≤ 26 ∧ ∀ H' m, Same H H' → Mark L m → m.length ≤ 41 → Q (.str (txt m)) H'
def rdMark41 (K : PySem.W.Frag) : TS :=
    tSeq (tAsg (tC (.str (txt ABC))) (gName 3))
      (tSeq (tAsg (tOp (rIxL K) (tLst (tCons (tCall (spDraw K) [] E0 (tCons (tVar 0) (tCons (tVar 1) (tCons (tC (.int 4)) tNil)))) (tCons (tCall (spDraw K) [] E0 (tCons (tVar 0) (tCons (tVar 1) (tCons (tC (.int 8)) tNil)))) (tCons (tC (.int 40)) tNil)))) (tOp rDivI (tCall (spDraw K) [] E0 (tCons (tVar 0) (tCons (tOp rAddI (tVar 1) (tC (.int 1))) (tCons (tC (.int 9)) tNil)))) (tC (.int 4)))) (gName 4))
      (tSeq (tAsg (tOp (rIxL K) (tLst (tCons (tVar 2) (tCons (tCB rMin2 (tCons (tC (.int 2)) (tCons (tVar 2) tNil))) tNil))) (tCall (spDraw K) [] E0 (tCons (tVar 0) (tCons (tOp rAddI (tVar 1) (tC (.int 2))) (tCons (tC (.int 2)) tNil))))) (gName 5))
      (tSeq (tAsg (tBM K "str" (rJoin K) (tC (.str (txt []))) (tCons (tComp (iRng1 (tCons (tVar 4) tNil)) [3, 0, 5, 1] tYes (tOp rIxStr (tVar 1) (tCall (spDraw K) [] E0 (tCons (tVar 2) (tCons (tOp rAddI (tOp rAddI (tVar 4) (tC (.int 3))) (tOp rMulI (tC (.int 2)) (tVar 0))) (tCons (tVar 3) tNil)))))) tNil)) (gName 6))
      (tRet (tOp rAddS (tVar 6) (tOp rIxStr (tVar 3) (tOp rAddI (tC (.int 1)) (tCall (spDraw K) [] E0 (tCons (tVar 0) (tCons (tOp rAddI (tVar 1) (tC (.int 90))) (tCons (tOp rSubI (tVar 2) (tC (.int 1))) tNil)))))))))))
theorem read_mark41 {K : PySem.W.Frag} {N : List Str} {vs : List V} {H : Hp} {Q : VK} {E : XK} (hN : N.length = 7) (h : spMark41 K vs H Q E) : rdMark41 K { nx := fun _ H' => Q .non H', rt := Q } (L2.start N vs) H := by
  obtain ⟨sc, ns, b, L, rfl, hS, hl, hb0, hb1, hL, hL26, q⟩ := h
  unfold rdMark41 L2.start
  rw [hN]
  refine seq_set fun c hc => ?_
  and_intros
  refine hc _ _ ?_
  clear hc c
  refine seq_set fun c hc => ?_
  and_intros
  refine ⟨sc, ns, _, _, rfl, hS, hl, by omega, by omega, by decide, fun r1 h10 h11 => ?_⟩
  refine ⟨sc, ns, _, _, rfl, hS, hl, by omega, by omega, by decide, fun r2 h20 h21 => ?_⟩
  refine ⟨by decide, fun p hp => ?_⟩
  refine ⟨sc, ns, _, _, rfl, hS.up hp, hl, by omega, by omega, by decide, fun r3 h30 h31 => ?_⟩
  and_intros
  refine ⟨cdiv (by decide) (by decide), ?_⟩
  refine ixI_go (ns := [r1, r2, 40]) SqL.here (by omega) (by simp only [List.length_cons, List.length_nil]; omega) fun z hz _ => hc _ _ ?_
  clear hc c
  have hzb : 0 ≤ z ∧ z ≤ 40 := by
    simp only [List.mem_cons, List.not_mem_nil, or_false] at hz
    omega
  have s1 := Same.up (o := HO.lst [V.int r1, V.int r2, V.int 40]) H hp
  generalize upd H p _ = H1 at s1 ⊢
  have hS1 := s1.seq hS
  refine seq_set fun c hc => ?_
  and_intros
  refine ⟨_, _, rfl, by decide, fun p2 hp2 => ?_⟩
  refine ⟨sc, ns, _, _, rfl, hS1.up hp2, hl, by omega, by omega, by decide, fun r4 h40 h41 => ?_⟩
  refine ixI_go (ns := [(L : Int), if (L : Int) < 2 then (L : Int) else 2]) SqL.here (by omega) (by simp only [List.length_cons, List.length_nil]; omega) fun f hf _ => hc _ _ ?_
  clear hc c
  have hfb : 2 ≤ f ∧ f ≤ L := by
    simp only [List.mem_cons, List.not_mem_nil, or_false] at hf
    rw [if_neg (by omega)] at hf
    omega
  have s2 := s1.new (o := HO.lst [V.int (L : Int), V.int (if (L : Int) < 2 then (L : Int) else 2)]) hp2
  generalize upd H1 p2 _ = H2 at s2 ⊢
  have hS2 := s2.seq hS
  refine seq_set fun c hc => ?_
  suffices main : ∀ (H3 : Hp) (t : List Nat), Same H2 H3 → Ls L t → t.length ≤ 40 → c (.str (txt t)) H3 by
    and_intros
    refine ⟨rfl, ?_⟩
    refine comp_r1 (j := z) (fun Q h => ⟨_, rfl, h⟩) (by omega) (by omega) (Nat.le_trans (show z.toNat ≤ 100000 by omega) (by decide))
      (fun i ys H' => H' = H2 ∧ ∃ t : List Nat, ys = (t.map fun c => strV [c]) ∧ t.length = i ∧ Ls L t) ⟨rfl, [], rfl, rfl, Ls.nil L⟩
      (fun i ys H' _ p => by obtain ⟨_, t, e, e2, _⟩ := p; rw [e, List.length_map, e2]; exact Nat.le_refl _) ?_ ?_
    · rintro i ys H' hi ⟨rfl, t, rfl, et, ht⟩ R hR
      and_intros
      refine ⟨mulB_l (by decide) (by decide), sc, ns, _, _, rfl, hS2, hl, by omega, by omega, by omega, fun r h0 h1 => ?_⟩
      refine ixABC_go h0 (by omega) (hR _ _ ⟨rfl, t ++ [97 + r.toNat], by rw [List.map_append]; rfl, by rw [List.length_append, et]; rfl, ht.app fun c hc => ?_⟩)
      rw [List.mem_singleton.mp hc]; omega
    · rintro ys H' ⟨rfl, t, rfl, et, ht⟩ p3 hp3
      refine ⟨[], p3, t.map fun c => [c], rfl, rfl, ?_, ?_, ?_⟩
      · refine .inl (.inl ?_)
        rw [upd_same, List.map_map]
        rfl
      · rw [sum_ones]
        simp only [List.length_nil]; omega
      · rw [joinL_nil, flat_ones]
        exact main _ t (Same.up _ hp3) ht (by omega)
  intro H3 t s3 ht htl
  refine hc _ _ ?_
  and_intros
  refine ⟨sc, ns, _, _, rfl, s3.seq hS2, hl, by omega, by omega, by omega, fun r h0 h1 => ?_⟩
  and_intros
  refine ixABC_go (i := 1 + r) (by omega) (by omega) (addS_go (by simp only [List.length_cons, List.length_nil]; omega) (q _ _ (s2.trans s3) ⟨ht.app fun c hc => ?_, Na.app (Na.one (show 97 + (1 + r).toNat ≠ 97 by omega)) (by simp), by simp⟩ ?_))
  · rw [List.mem_singleton.mp hc]; omega
  · rw [List.length_append]; simp only [List.length_cons, List.length_nil]; omega
end L2
set_option Elab.async false
set_option linter.all false
set_option maxRecDepth 100000
set_option maxHeartbeats 4000000
namespace L2
open PySem PySem.Spec PyProof.Rows MM
end L2
set_option Elab.async false
set_option linter.all false
set_option maxRecDepth 100000
set_option maxHeartbeats 4000000
namespace L2
open PySem PySem.Spec PyProof.Rows MM
def Keeps (F : List Addr) (H H' : Hp) : Prop := ∀ b o, H b = some o → b ∉ F → H' b = some o
theorem Same.keeps {H H' : Hp} (s : Same H H') (F : List Addr) : Keeps F H H' := fun b o e _ => s b o e
theorem Keeps.trans {F : List Addr} {H H1 H2 : Hp} (a : Keeps F H H1) (b : Keeps F H1 H2) : Keeps F H H2 := fun x o e n => b x o (a x o e n) n
theorem Keeps.upd {F : List Addr} {H H' : Hp} {p : Addr} {o : HO} (a : Keeps F H H') (h : p ∈ F ∨ H' p = none) : Keeps F H (upd H' p o) := fun x q e n => by
  have := a x q e n
  rw [upd_ne (fun z => by subst z; rcases h with h | h
                          · exact n h
                          · rw [this] at h; cases h)]
  exact this
def shelfF (L : Nat) (pm pt : Addr) : List (Str × V) := [("letters", .int L), ("mark_row", .ref pm), ("thing_row", .ref pt)]
structure Shf (C : Addr) (H : Hp) (x dx pm pt : Addr) (L : Nat) (ms ts : List (List Nat)) : Prop where
  ins : H x = some (.ins C dx (shelfF L pm pt))
  own : H dx = some (.own x)
  mar : H pm = some (.lst (ms.map strV))
  thi : H pt = some (.lst (ts.map strV))
  ne : pm ≠ pt
theorem Shf.same {C : Addr} {H H' : Hp} {x dx pm pt : Addr} {L : Nat} {ms ts : List (List Nat)} (S : Shf C H x dx pm pt L ms ts) (s : Same H H') : Shf C H' x dx pm pt L ms ts :=
  ⟨s _ _ S.ins, s _ _ S.own, s _ _ S.mar, s _ _ S.thi, S.ne⟩
theorem Shf.keep {C : Addr} {H H' : Hp} {x dx pm pt : Addr} {L : Nat} {ms ts : List (List Nat)} {F : List Addr} (S : Shf C H x dx pm pt L ms ts) (k : Keeps F H H') (h1 : x ∉ F) (h2 : dx ∉ F) (h3 : pm ∉ F) (h4 : pt ∉ F) : Shf C H' x dx pm pt L ms ts :=
  ⟨k _ _ S.ins h1, k _ _ S.own h2, k _ _ S.mar h3, k _ _ S.thi h4, S.ne⟩
structure Row (L : Nat) (ms ts : List (List Nat)) : Prop where
  l2 : 2 ≤ L
  l26 : L ≤ 26
  len : ms.length = ts.length
  few : ts.length ≤ 300
  mar : ∀ m ∈ ms, Mark L m ∧ m.length ≤ 1000
  up : ms.Pairwise (· < ·)
def SIGNS : List Nat := [97, 98, 99, 100, 101, 102, 103, 104, 105, 106, 107, 108, 109, 110, 111, 112, 113, 114, 115, 116, 117, 118, 119, 120, 121, 122, 48, 49, 50, 51, 52, 53, 54, 55, 56, 57]
def Thing (t : List Nat) : Prop := t ≠ [] ∧ t.length ≤ 12 ∧ ∀ c ∈ t, c ∈ SIGNS
end L2
set_option Elab.async false
set_option linter.all false
set_option maxRecDepth 100000
set_option maxHeartbeats 4000000
namespace L2
open PySem PySem.Spec PyProof.Rows MM
section
variable {K : PySem.W.Frag} {C : Addr} {H : Hp} {x dx pm pt : Addr} {L : Nat} {ms ts : List (List Nat)} {σ : St} {i : Nat} {Q : VK}
end
def aheadO (ms : List (List Nat)) (i : Nat) : Option (List Nat) := if i = 0 then none else ms[i - 1]?
end L2
set_option Elab.async false
set_option linter.all false
set_option maxRecDepth 100000
set_option maxHeartbeats 4000000
namespace L2
open PySem PySem.Spec PyProof.Rows MM
def setIn (ms : List (List Nat)) (i : Nat) (zs : List (List Nat)) : List (List Nat) := ms.take i ++ zs ++ ms.drop i
structure IsLong (ms : List (List Nat)) (z : Nat) : Prop where
  none : ms = [] → z = 0
  one : ms ≠ [] → ∃ m ∈ ms, m.length = z
  all : ∀ m ∈ ms, m.length ≤ z
theorem IsLong.eq {ms : List (List Nat)} {a b : Nat} (A : IsLong ms a) (B : IsLong ms b) : a = b := by
  by_cases h : ms = []
  · rw [A.none h, B.none h]
  · obtain ⟨m, h1, e1⟩ := A.one h
    obtain ⟨n, h2, e2⟩ := B.one h
    have := A.all n h2
    have := B.all m h1
    omega
theorem hand1 {L : Nat} (h2 : 2 ≤ L) (h26 : L ≤ 26) : Hands L 1 0 := ⟨h2, h26, by decide, by omega⟩
theorem Row.near {L : Nat} {ms ts : List (List Nat)} (R : Row L ms ts) (i : Nat) : MarksOk L (aheadO ms i) ms[i]? ∧ OkLH (aheadO ms i) ms[i]? := by
  refine ⟨⟨fun m e => ?_, fun m e => R.mar m (List.mem_of_getElem? e)⟩, fun l h e1 e2 => ?_⟩
  · unfold aheadO at e
    split at e
    · cases e
    · exact R.mar m (List.mem_of_getElem? e)
  · unfold aheadO at e1
    split at e1
    · cases e1
    · obtain ⟨h1, e1⟩ := List.getElem?_eq_some_iff.mp e1
      obtain ⟨h2, e2⟩ := List.getElem?_eq_some_iff.mp e2
      have := List.pairwise_iff_getElem.mp R.up (i - 1) i h1 h2 (by omega)
      rwa [e1, e2] at this
end L2
set_option Elab.async false
set_option linter.all false
set_option maxRecDepth 100000
set_option maxHeartbeats 4000000
namespace L2
open PySem PySem.Spec PyProof.Rows MM
abbrev loN (L : Nat) (lo : Option (List Nat)) (n : Nat) : Nat := valO L lo n + 1
abbrev hiN (L : Nat) (hi : Option (List Nat)) (n : Nat) : Nat := aheadN hi (highO L hi n) n
structure LeastI (L : Nat) (lo hi : Option (List Nat)) (n : Nat) : Prop where
  pos : 1 ≤ n
  some_ : loN L lo n < hiN L hi n
  less : ∀ m, 1 ≤ m → m < n → hiN L hi m ≤ loN L lo m
theorem own_all {L w : Nat} (hL : 0 < L) : ow L (endsL L 1 0) w = true ↔ w % L ≠ 0 := by
  rw [own_iff hL]
  constructor
  · intro h; omega
  · intro h; exact ⟨by omega, Nat.mod_one _⟩
theorem figO_lt {L : Nat} (hL : 0 < L) {o : Option (List Nat)} {n : Nat} (h : ∀ m, o = some m → Ls L m) : figO o n < L := by
  cases o with
  | none => exact hL
  | some m =>
    show fig m n < L
    unfold fig
    cases e : m[n]? with
    | none => exact hL
    | some c => have := h m rfl c (List.mem_of_getElem? e); simp only []; omega
theorem LeastI.own {L : Nat} {lo hi : Option (List Nat)} {n : Nat} (A : LeastI L lo hi n) (hL : 2 ≤ L) (M : MarksOk L lo hi) {w : Nat} (h1 : loN L lo n ≤ w) (h2 : w < hiN L hi n) : w % L ≠ 0 := by
  have hL0 : 0 < L := by omega
  intro h0
  have hle := ahead_le n hL0 M
  obtain ⟨n', rfl⟩ : ∃ n', n = n' + 1 := ⟨n - 1, by have := A.pos; omega⟩
  by_cases hn : n' = 0
  · subst hn
    have hle : hiN L hi (0 + 1) ≤ L := by
      have e : L ^ (0 + 1) = L := by rw [Nat.pow_succ, Nat.pow_zero, Nat.one_mul]
      rw [e] at hle
      exact hle
    have g1 : 1 ≤ w := Nat.le_trans (Nat.le_add_left 1 _) h1
    have g2 : w < L := Nat.lt_of_lt_of_le h2 hle
    rw [Nat.mod_eq_of_lt g2] at h0
    omega
  · have hA := A.less n' (by omega) (by omega)
    obtain ⟨v, hv⟩ : ∃ v, w = v * L := ⟨w / L, by have := Nat.div_add_mod w L; rw [h0, Nat.add_zero, Nat.mul_comm] at this; exact this.symm⟩
    subst hv
    have l1 : loN L lo n' ≤ v := by
      show valO L lo n' + 1 ≤ v
      have h1 : valO L lo (n' + 1) + 1 ≤ v * L := h1
      rw [valO_succ] at h1
      have : valO L lo n' * L < v * L := by omega
      have := Nat.lt_of_mul_lt_mul_right this
      omega
    have l2 : v < hiN L hi n' := by
      have fl := figO_lt (n := n') hL0 (o := hi) fun m e => (M.mhi m e).1.ls
      cases hi with
      | none =>
        show v < L ^ n'
        have h2 : v * L < L ^ (n' + 1) := h2
        rw [Nat.pow_succ] at h2
        exact Nat.lt_of_mul_lt_mul_right h2
      | some h =>
        have e1 : hiN L (some h) (n' + 1) = if n' + 1 < h.length then val L h (n' + 1) + 1 else val L h (n' + 1) := rfl
        have e2 : hiN L (some h) n' = if n' < h.length then val L h n' + 1 else val L h n' := rfl
        rw [e1, val_succ] at h2
        rw [e2]
        have fl : fig h n' < L := fl
        by_cases c1 : n' < h.length
        · rw [if_pos c1]
          have : v * L < (val L h n' + 1) * L := by
            rw [Nat.add_mul, Nat.one_mul]
            split at h2 <;> omega
          exact Nat.lt_of_mul_lt_mul_right this
        · rw [if_neg c1]
          rw [if_neg (by omega)] at h2
          have e3 : fig h n' = 0 := by unfold fig; rw [List.getElem?_eq_none (by omega)]
          rw [e3, Nat.add_zero] at h2
          exact Nat.lt_of_mul_lt_mul_right h2
    omega
theorem LeastI.ob {L : Nat} {lo hi : Option (List Nat)} {n : Nat} (A : LeastI L lo hi n) (hL : 2 ≤ L) (M : MarksOk L lo hi) : ∀ k, loN L lo n + k ≤ hiN L hi n → MM.ob L (endsL L 1 0) (loN L lo n + k) = MM.ob L (endsL L 1 0) (loN L lo n) + k
  | 0, _ => rfl
  | k + 1, h => by
    have hL0 : 0 < L := by omega
    have E := ends_ok (K := L) (h := 1) (j := 0) (by decide) (by omega)
    rw [show loN L lo n + (k + 1) = loN L lo n + k + 1 by omega, ob_succ hL0 E, A.ob hL M k (by omega), if_pos ((own_all hL0).mpr (A.own hL M (Nat.le_add_right _ _) (by omega)))]
    omega
theorem LeastI.least {L : Nat} {lo hi : Option (List Nat)} {n : Nat} (A : LeastI L lo hi n) (hL : 2 ≤ L) (M : MarksOk L lo hi) (ok : OkLH lo hi) : roomI L (endsL L 1 0) lo hi n = ((hiN L hi n - loN L lo n : Nat) : Int) ∧ ∀ m, LeastB true L (endsL L 1 0) lo hi 1 m → m = n := by
  have hL0 : 0 < L := by omega
  have E := ends_ok (K := L) (h := 1) (j := 0) (by decide) (by omega)
  have hlt := A.some_
  have e := A.ob hL M (hiN L hi n - loN L lo n) (by omega)
  rw [show loN L lo n + (hiN L hi n - loN L lo n) = hiN L hi n by omega] at e
  have r : roomI L (endsL L 1 0) lo hi n = ((hiN L hi n - loN L lo n : Nat) : Int) := by
    show ((MM.ob L (endsL L 1 0) (hiN L hi n) : Nat) : Int) - ((MM.ob L (endsL L 1 0) (loN L lo n) : Nat) : Int) = _
    rw [e]
    omega
  refine ⟨r, fun m B => ?_⟩
  have rm : ∀ k, 1 ≤ k → k < n → roomI L (endsL L 1 0) lo hi k ≤ 0 := fun k h1 h2 => by
    have := ob_mono hL0 E (A.less k h1 h2)
    show ((MM.ob L (endsL L 1 0) (hiN L hi k) : Nat) : Int) - ((MM.ob L (endsL L 1 0) (loN L lo k) : Nat) : Int) ≤ 0
    omega
  rcases Nat.lt_trichotomy m n with h | h | h
  · have b := B.room
    rw [roomB_true] at b
    have := rm m B.pos h
    omega
  · exact h
  · have b := B.less n A.pos h
    rw [roomB_true, r] at b
    omega
def numI (L : Nat) (lo hi : Option (List Nat)) (n : Nat) : Nat := match lo, hi with
  | some _, none => loN L lo n
  | none, some _ => hiN L hi n - 1
  | _, _ => (loN L lo n + (hiN L hi n - 1)) / 2
theorem LeastI.found {L : Nat} {lo hi : Option (List Nat)} {n : Nat} (A : LeastI L lo hi n) (hL : 2 ≤ L) (M : MarksOk L lo hi) (ok : OkLH lo hi) {n2 w : Nat} {m : List Nat} (F : Found L (endsL L 1 0) lo hi n2 w m) : m = MM.mk L (numI L lo hi n) n := by
  have hL0 : 0 < L := by omega
  have E := ends_ok (K := L) (h := 1) (j := 0) (by decide) (by omega)
  obtain ⟨r, one⟩ := A.least hL M ok
  have e := one n2 F.least
  subst e
  have hlt := A.some_
  have hat := F.at_
  rw [r] at hat
  obtain ⟨k, hk, hk2⟩ : ∃ k, toldI lo hi ((hiN L hi n2 - loN L lo n2 : Nat) : Int) = ((k : Nat) : Int) ∧ numI L lo hi n2 = loN L lo n2 + k := by
    cases lo with
    | none =>
      cases hi with
      | none => exact ⟨(hiN L none n2 - loN L none n2 - 1) / 2, by simp only [toldI]; omega, by simp only [numI]; omega⟩
      | some h => exact ⟨hiN L (some h) n2 - loN L none n2 - 1, by simp only [toldI]; omega, by simp only [numI]; omega⟩
    | some l =>
      cases hi with
      | none => exact ⟨0, rfl, rfl⟩
      | some h => exact ⟨(hiN L (some h) n2 - loN L (some l) n2 - 1) / 2, by simp only [toldI]; omega, by simp only [numI]; omega⟩
  have kin : loN L lo n2 + k < hiN L hi n2 := by
    have := told_in lo hi (z := ((hiN L hi n2 - loN L lo n2 : Nat) : Int)) (by omega)
    rw [hk] at this
    omega
  have ow1 := (own_all hL0).mpr (A.own hL M (Nat.le_add_right (loN L lo n2) k) kin)
  have ew : w = loN L lo n2 + k := by
    rw [← nth_ob hL0 E F.own, ← nth_ob hL0 E ow1]
    congr 1
    rw [A.ob hL M k (by omega)]
    rw [hk] at hat
    show MM.ob L (endsL L 1 0) w = MM.ob L (endsL L 1 0) (loN L lo n2) + k
    have hat : (MM.ob L (endsL L 1 0) w : Int) = (MM.ob L (endsL L 1 0) (loN L lo n2) : Int) + (k : Int) := hat
    omega
  rw [F.eq, hk2, ← ew]
  obtain ⟨n', rfl⟩ : ∃ n', n2 = n' + 1 := ⟨n2 - 1, by have := A.pos; omega⟩
  rw [MM.mk_low hL0 ((own_all hL0).mp F.own)]
end L2
set_option Elab.async false
set_option linter.all false
set_option maxRecDepth 100000
set_option maxHeartbeats 4000000
namespace L2
open PySem PySem.Spec PyProof.Rows MM
def spSpan : Sp := fun vs H Q _ => ∃ (L : Nat) (lo hi : Option (List Nat)) (n : Nat), vs = [.int L, oV lo, oV hi, .int n] ∧ 2 ≤ L ∧ L ≤ 26 ∧ MarksOk L lo hi ∧ n ≤ 2000 ∧ ∀ p, H p = none → Q (.ref p) (upd H p (.tup [.int (loN L lo n : Nat), .int ((hiN L hi n : Nat) - 1)]))
def rdSpan : TS :=
    tSeq (tAsg (tC (.int 1)) (gName 4))
      (tSeq (tIfS (tB (tNotN (tVar 1))) (tAsg (tOp rAddI (tCall spLWhole [] E0 (tCons (tVar 0) (tCons (tVar 1) (tCons (tVar 3) tNil)))) (tC (.int 1))) (gName 4)) (tNext))
      (tSeq (tAsg (tOp rSubI (tCall spPower [] E0 (tCons (tVar 0) (tCons (tVar 3) tNil))) (tC (.int 1))) (gName 5))
      (tSeq (tIfS (tB (tNotN (tVar 2))) (tAsg (tOp rSubI (tCall spLWhole [] E0 (tCons (tVar 0) (tCons (tVar 2) (tCons (tVar 3) tNil)))) (tCB rInt1 (tCons (tOp rLeI (tCB rLenS (tCons (tVar 2) tNil)) (tVar 3)) tNil))) (gName 5)) (tNext))
      (tRet (tTup (tCons (tVar 4) (tCons (tVar 5) tNil)))))))
theorem read_span {N : List Str} {vs : List V} {H : Hp} {Q : VK} {E : XK} (hN : N.length = 6) (h : spSpan vs H Q E) : rdSpan { nx := fun _ H' => Q .non H', rt := Q } (L2.start N vs) H := by
  obtain ⟨L, lo, hi, n, rfl, hL2, hL26, M, hn, q⟩ := h
  have hlen := M.lens
  unfold rdSpan L2.start
  rw [hN]
  refine seq_set fun c hc => ?_
  and_intros
  refine hc _ _ ?_
  clear hc c
  refine seq_any fun c hc => ?_
  suffices main : c [some (.int L), some (oV lo), some (oV hi), some (.int n), some (.int (loN L lo n : Nat)), none] H by
    cases lo with
    | none =>
      simp only [oV, tCompSet,tRaise,tIsi,tSeq,tAsg,gName,tOp,tUn,tVar,tC,tTest,tB,tIf,tIfS,tAnd,tOr,tNot,tAndV,tOrV,tNotV,tRet,tRetN,tNext,tDrop,tCB,tCons,tNil,tBM,tBM0,tCall,tLst,tTup,tSl,tPart,tNoPart,tIsN,tNotN,tYes,tBreak,tCont,rI0,rI,rU,rEq,rNe,L2.start,compSt,List.map_cons,List.map_nil,List.length_cons,List.length_nil,List.replicate_succ,List.replicate_zero,List.cons_append,List.nil_append,List.append_nil,List.getElem?_cons_zero,List.getElem?_cons_succ,List.set_cons_zero,List.set_cons_succ,Option.some.injEq,Option.join_some,V.int.injEq,V.str.injEq,V.bl.injEq,V.ref.injEq,txt_inj,exists_eq_left',exists_eq_left,exists_and_left,and_true,true_and,decide_eq_true_eq,reduceCtorEq,decide_false,decide_true,Bool.not_false,Bool.not_true,if_true,if_false,Bool.false_eq_true,Nat.reduceAdd,Nat.reduceSub,Bool.not_eq_true',decide_eq_false_iff_not,not_true_eq_false,not_false_eq_true]
      exact main
    | some l =>
      obtain ⟨ml, zl⟩ := M.mlo l rfl
      simp only [oV, tCompSet,tRaise,tIsi,tSeq,tAsg,gName,tOp,tUn,tVar,tC,tTest,tB,tIf,tIfS,tAnd,tOr,tNot,tAndV,tOrV,tNotV,tRet,tRetN,tNext,tDrop,tCB,tCons,tNil,tBM,tBM0,tCall,tLst,tTup,tSl,tPart,tNoPart,tIsN,tNotN,tYes,tBreak,tCont,rI0,rI,rU,rEq,rNe,L2.start,compSt,List.map_cons,List.map_nil,List.length_cons,List.length_nil,List.replicate_succ,List.replicate_zero,List.cons_append,List.nil_append,List.append_nil,List.getElem?_cons_zero,List.getElem?_cons_succ,List.set_cons_zero,List.set_cons_succ,Option.some.injEq,Option.join_some,V.int.injEq,V.str.injEq,V.bl.injEq,V.ref.injEq,txt_inj,exists_eq_left',exists_eq_left,exists_and_left,and_true,true_and,decide_eq_true_eq,reduceCtorEq,decide_false,decide_true,Bool.not_false,Bool.not_true,if_true,if_false,Bool.false_eq_true,Nat.reduceAdd,Nat.reduceSub,Bool.not_eq_true',decide_eq_false_iff_not,not_true_eq_false,not_false_eq_true]
      exact ⟨L, l, n, rfl, hL26, ml.ls.mono hL26, by omega, by omega, _, rfl, main⟩
  refine hc _ _ ?_
  clear hc c
  refine seq_set fun c hc => ?_
  and_intros
  refine ⟨L, n, rfl, hL26, by omega, ?_⟩
  and_intros
  refine hc _ _ ?_
  clear hc c
  refine seq_any fun c hc => ?_
  suffices main : c [some (.int L), some (oV lo), some (oV hi), some (.int n), some (.int (loN L lo n : Nat)), some (.int ((hiN L hi n : Nat) - 1))] H by
    cases hi with
    | none =>
      simp only [oV, tCompSet,tRaise,tIsi,tSeq,tAsg,gName,tOp,tUn,tVar,tC,tTest,tB,tIf,tIfS,tAnd,tOr,tNot,tAndV,tOrV,tNotV,tRet,tRetN,tNext,tDrop,tCB,tCons,tNil,tBM,tBM0,tCall,tLst,tTup,tSl,tPart,tNoPart,tIsN,tNotN,tYes,tBreak,tCont,rI0,rI,rU,rEq,rNe,L2.start,compSt,List.map_cons,List.map_nil,List.length_cons,List.length_nil,List.replicate_succ,List.replicate_zero,List.cons_append,List.nil_append,List.append_nil,List.getElem?_cons_zero,List.getElem?_cons_succ,List.set_cons_zero,List.set_cons_succ,Option.some.injEq,Option.join_some,V.int.injEq,V.str.injEq,V.bl.injEq,V.ref.injEq,txt_inj,exists_eq_left',exists_eq_left,exists_and_left,and_true,true_and,decide_eq_true_eq,reduceCtorEq,decide_false,decide_true,Bool.not_false,Bool.not_true,if_true,if_false,Bool.false_eq_true,Nat.reduceAdd,Nat.reduceSub,Bool.not_eq_true',decide_eq_false_iff_not,not_true_eq_false,not_false_eq_true]
      exact main
    | some u =>
      obtain ⟨mu, zu⟩ := M.mhi u rfl
      simp only [oV, tCompSet,tRaise,tIsi,tSeq,tAsg,gName,tOp,tUn,tVar,tC,tTest,tB,tIf,tIfS,tAnd,tOr,tNot,tAndV,tOrV,tNotV,tRet,tRetN,tNext,tDrop,tCB,tCons,tNil,tBM,tBM0,tCall,tLst,tTup,tSl,tPart,tNoPart,tIsN,tNotN,tYes,tBreak,tCont,rI0,rI,rU,rEq,rNe,L2.start,compSt,List.map_cons,List.map_nil,List.length_cons,List.length_nil,List.replicate_succ,List.replicate_zero,List.cons_append,List.nil_append,List.append_nil,List.getElem?_cons_zero,List.getElem?_cons_succ,List.set_cons_zero,List.set_cons_succ,Option.some.injEq,Option.join_some,V.int.injEq,V.str.injEq,V.bl.injEq,V.ref.injEq,txt_inj,exists_eq_left',exists_eq_left,exists_and_left,and_true,true_and,decide_eq_true_eq,reduceCtorEq,decide_false,decide_true,Bool.not_false,Bool.not_true,if_true,if_false,Bool.false_eq_true,Nat.reduceAdd,Nat.reduceSub,Bool.not_eq_true',decide_eq_false_iff_not,not_true_eq_false,not_false_eq_true]
      refine ⟨L, u, n, rfl, hL26, mu.ls.mono hL26, by omega, by omega, ?_⟩
      refine lenS_go (by omega) ⟨_, rfl, ?_⟩
      refine .inr ⟨_, rfl, ⟨_, rfl, ?_⟩⟩
      have ea : hiN L (some u) n = if n < u.length then val L u n + 1 else val L u n := rfl
      have e2 : ((hiN L (some u) n : Nat) : Int) - 1 = ((val L u n : Nat) : Int) - (if decide ((u.length : Int) ≤ (n : Int)) then 1 else 0) := by
        rw [ea]
        by_cases z : n < u.length
        · rw [if_pos z, decide_eq_false (show ¬ (u.length : Int) ≤ (n : Int) by omega)]
          simp
        · rw [if_neg z, decide_eq_true (show (u.length : Int) ≤ (n : Int) by omega)]
          simp
      rw [e2] at main
      exact ⟨_, rfl, main⟩
  refine hc _ _ ?_
  and_intros
  exact ⟨by decide, fun p hp => q p hp⟩
end L2
set_option Elab.async false
set_option linter.all false
set_option maxRecDepth 100000
set_option maxHeartbeats 4000000
namespace L2
open PySem PySem.Spec PyProof.Rows MM
theorem Found.all {L n w : Nat} {lo hi : Option (List Nat)} {m : List Nat} (F : Found L (endsL L 1 0) lo hi n w m) (hL : 2 ≤ L) (M : MarksOk L lo hi) (ok : OkLH lo hi) :
    Mark L m ∧ m.length ≤ 1 + max (lenO lo) (lenO hi) ∧ (∀ l, lo = some l → l < m) ∧ ∀ u, hi = some u → m < u := by
  have hL0 : 0 < L := by omega
  have hw : w < L ^ n := Nat.lt_of_lt_of_le F.lt (ahead_le n hL0 M)
  have hm := low_length L w n
  rw [← F.eq] at hm
  have h0 := (own_all hL0).mp F.own
  have hn1 := F.least.pos
  have hnl := F.least.len1 hL (ends_ok (K := L) (h := 1) (j := 0) (by decide) (by omega)) M ok
  obtain ⟨n', rfl⟩ : ∃ n', n = n' + 1 := ⟨n - 1, by omega⟩
  refine ⟨?_, by omega, fun l e => ?_, fun u e => ?_⟩
  · refine ⟨by rw [F.eq]; exact low_ls hL0 _ _, fun c hc => ?_, fun z => by rw [z] at hm; simp at hm⟩
    rw [F.eq, low_last hL0] at hc
    have := Option.some.inj hc
    omega
  · rw [F.eq, low_iff hL0 hw h0 (M.mlo l e).1.ls]
    have := F.ge
    rw [e] at this
    exact this
  · rw [F.eq, high_iff hL0 hw (M.mhi u e).1.ls (M.mhi u e).1.na]
    have := F.lt
    rw [e] at this
    exact this
theorem lt_tr {a b c : List Nat} (h1 : a < b) (h2 : b < c) : a < c := List.lt_trans h1 h2
theorem mem_setIn {ms zs : List (List Nat)} {i : Nat} {m : List Nat} (h : m ∈ setIn ms i zs) : m ∈ ms ∨ m ∈ zs := by
  unfold setIn at h
  rcases List.mem_append.mp h with h | h
  · rcases List.mem_append.mp h with h | h
    · exact .inl (List.mem_of_mem_take h)
    · exact .inr h
  · exact .inl (List.mem_of_mem_drop h)
theorem len_setIn {ms zs : List (List Nat)} {i : Nat} (h : i ≤ ms.length) : (setIn ms i zs).length = ms.length + zs.length := by
  unfold setIn
  rw [List.length_append, List.length_append, List.length_take, List.length_drop]
  omega
theorem Row.puts {L i : Nat} {ms ts zs us : List (List Nat)} (R : Row L ms ts) (hi : i ≤ ts.length) (hl : zs.length = us.length) (hf : ts.length + us.length ≤ 300) (hz : ∀ z ∈ zs, Mark L z ∧ z.length ≤ 1000) (hp : zs.Pairwise (· < ·))
    (h1 : ∀ z ∈ zs, ∀ l, aheadO ms i = some l → l < z) (h2 : ∀ z ∈ zs, ∀ u, ms[i]? = some u → z < u) : Row L (setIn ms i zs) (setIn ts i us) := by
  have hlen := R.len
  refine ⟨R.l2, R.l26, by rw [len_setIn (by omega), len_setIn hi, hlen, hl], by rw [len_setIn hi]; exact hf, fun m hm => ?_, ?_⟩
  · rcases mem_setIn hm with h | h
    · exact R.mar m h
    · exact hz m h
  · unfold setIn
    rw [List.append_assoc, List.pairwise_append]
    refine ⟨R.up.sublist (List.take_sublist _ _), List.pairwise_append.mpr ⟨hp, R.up.sublist (List.drop_sublist _ _), fun a ha b hb => ?_⟩, fun a ha b hb => ?_⟩
    · obtain ⟨j, hj, e⟩ := List.getElem_of_mem hb
      rw [List.length_drop] at hj
      rw [List.getElem_drop] at e
      have hz := h2 a ha ms[i] (List.getElem?_eq_getElem (by omega))
      by_cases z : j = 0
      · subst z
        rw [← e]
        exact hz
      · have := List.pairwise_iff_getElem.mp R.up i (i + j) (by omega) (by omega) (by omega)
        rw [e] at this
        exact lt_tr hz this
    · rcases List.mem_append.mp hb with hb | hb
      · obtain ⟨j, hj, e⟩ := List.getElem_of_mem ha
        rw [List.length_take] at hj
        rw [List.getElem_take] at e
        have hz := h1 b hb ms[i - 1] (by unfold aheadO; rw [if_neg (by omega)]; exact List.getElem?_eq_getElem (by omega))
        by_cases z : j = i - 1
        · subst z
          rw [← e]
          exact hz
        · have := List.pairwise_iff_getElem.mp R.up j (i - 1) (by omega) (by omega) (by omega)
          rw [e] at this
          exact lt_tr this hz
      · have := R.up
        rw [← List.take_append_drop i ms, List.pairwise_append] at this
        exact this.2.2 a ha b hb
theorem Row.take {L i : Nat} {ms ts : List (List Nat)} (R : Row L ms ts) (hi : i < ts.length) : Row L (ms.eraseIdx i) (ts.eraseIdx i) := by
  have hlen := R.len
  have hf := R.few
  refine ⟨R.l2, R.l26, ?_, ?_, fun m hm => R.mar m (List.mem_of_mem_eraseIdx hm), R.up.sublist (List.eraseIdx_sublist _ _)⟩
  · rw [List.length_eraseIdx_of_lt (by omega), List.length_eraseIdx_of_lt hi, hlen]
  · rw [List.length_eraseIdx_of_lt hi]; omega
structure Good (L : Nat) (ms ts : List (List Nat)) (k : Nat) : Prop where
  row : Row L ms ts
  th : ∀ t ∈ ts, Thing t
  few : ts.length ≤ k
  len : ∀ m ∈ ms, m.length ≤ k
theorem Good.more {L k : Nat} {ms ts : List (List Nat)} (G : Good L ms ts k) : Good L ms ts (k + 1) := ⟨G.row, G.th, Nat.le_succ_of_le G.few, fun m h => Nat.le_succ_of_le (G.len m h)⟩
theorem Good.take {L k i : Nat} {ms ts : List (List Nat)} (G : Good L ms ts k) (hi : i < ts.length) : Good L (ms.eraseIdx i) (ts.eraseIdx i) (k + 1) :=
  ⟨G.row.take hi, fun t h => G.th t (List.mem_of_mem_eraseIdx h), by rw [List.length_eraseIdx_of_lt hi]; have := G.few; omega, fun m h => Nat.le_succ_of_le (G.len m (List.mem_of_mem_eraseIdx h))⟩
theorem Good.lens {L k : Nat} {ms ts : List (List Nat)} (G : Good L ms ts k) (i : Nat) : lenO (aheadO ms i) ≤ k ∧ lenO ms[i]? ≤ k := by
  have h : ∀ o : Option (List Nat), (∀ m, o = some m → m ∈ ms) → lenO o ≤ k := fun o h => by
    cases o with
    | none => exact Nat.zero_le _
    | some m => exact G.len m (h m rfl)
  refine ⟨h _ fun m e => ?_, h _ fun m e => List.mem_of_getElem? e⟩
  unfold aheadO at e
  split at e
  · cases e
  · exact List.mem_of_getElem? e
theorem Good.put {L k i n w : Nat} {ms ts : List (List Nat)} {m t : List Nat} (G : Good L ms ts k) (hk : k ≤ 298) (hi : i ≤ ts.length) (F : Found L (endsL L 1 0) (aheadO ms i) ms[i]? n w m) (ht : Thing t) : Good L (setIn ms i [m]) (setIn ts i [t]) (k + 1) := by
  obtain ⟨mo, ok⟩ := G.row.near i
  obtain ⟨a1, a2, a3, a4⟩ := F.all G.row.l2 mo ok
  obtain ⟨b1, b2⟩ := G.lens i
  have hf := G.few
  refine ⟨G.row.puts hi rfl (by simp only [List.length_cons, List.length_nil]; omega) ?_ (List.pairwise_singleton _ _) ?_ ?_, fun z hz => ?_, by rw [len_setIn hi]; simp only [List.length_cons, List.length_nil]; omega, fun z hz => ?_⟩
  · intro z hz; rw [List.mem_singleton.mp hz]; exact ⟨a1, by omega⟩
  · intro z hz; rw [List.mem_singleton.mp hz]; exact a3
  · intro z hz; rw [List.mem_singleton.mp hz]; exact a4
  · rcases mem_setIn hz with h | h
    · exact G.th z h
    · rw [List.mem_singleton.mp h]; exact ht
  · rcases mem_setIn hz with h | h
    · exact Nat.le_succ_of_le (G.len z h)
    · rw [List.mem_singleton.mp h]; omega
inductive Plc where
  | q1 : Plc
  | q2 : Plc
  | q3 : Plc
  | q4 : Plc
  | q5 : Plc
  | t (b : Bool) : Plc
  | m (b : Bool) : Plc
  | pm (b : Bool) : Plc
  | pt (b : Bool) : Plc
  | x (b : Bool) : Plc
  | d (b : Bool) : Plc
structure Sta where
  L : Bool → Nat
  l : Bool → Nat
  ms : Bool → List (List Nat)
  ts : Bool → List (List Nat)
def hof (C : Addr) (ad : Plc → Addr) (S : Sta) : Plc → HO
  | .q1 => .lst [.int (S.L false), .int (S.L true)]
  | .q2 => .lst [.ref (ad (.x false)), .ref (ad (.x true))]
  | .q3 => .lst [.ref (ad (.t false)), .ref (ad (.t true))]
  | .q4 => .lst [.ref (ad (.m false)), .ref (ad (.m true))]
  | .q5 => .lst [.int (S.l false), .int (S.l true)]
  | .t b => .lst ((S.ts b).map strV)
  | .m b => .lst ((S.ms b).map strV)
  | .pm b => .lst ((S.ms b).map strV)
  | .pt b => .lst ((S.ts b).map strV)
  | .x b => .ins C (ad (.d b)) (shelfF (S.L b) (ad (.pm b)) (ad (.pt b)))
  | .d b => .own (ad (.x b))
structure Ats (C : Addr) (H0 : Hp) (ad : Plc → Addr) (S : Sta) (H : Hp) : Prop where
  inj : ∀ l l', ad l = ad l' → l = l'
  val : ∀ l, H (ad l) = some (hof C ad S l)
  fre : ∀ l, H0 (ad l) = none
  sm : Same H0 H
theorem Ats.same {C : Addr} {H0 H H' : Hp} {ad : Plc → Addr} {S : Sta} (A : Ats C H0 ad S H) (s : Same H H') : Ats C H0 ad S H' := ⟨A.inj, fun l => s _ _ (A.val l), A.fre, A.sm.trans s⟩
theorem Ats.shf {C : Addr} {H0 H : Hp} {ad : Plc → Addr} {S : Sta} (A : Ats C H0 ad S H) (b : Bool) : Shf C H (ad (.x b)) (ad (.d b)) (ad (.pm b)) (ad (.pt b)) (S.L b) (S.ms b) (S.ts b) :=
  ⟨A.val (.x b), A.val (.d b), A.val (.pm b), A.val (.pt b), fun z => nomatch A.inj _ _ z⟩
def Sta.set (S : Sta) (b : Bool) (ms ts : List (List Nat)) (l : Nat) : Sta := ⟨S.L, fun c => if c = b then l else S.l c, fun c => if c = b then ms else S.ms c, fun c => if c = b then ts else S.ts c⟩
theorem same_keep {H0 H H' : Hp} {F : List Addr} (s : Same H0 H) (k : Keeps F H H') (h : ∀ a ∈ F, H0 a = none) : Same H0 H' := fun b o e => k b o (s b o e) (fun z => by rw [h b z] at e; cases e)
theorem Ats.take {C : Addr} {H0 H H2 : Hp} {ad : Plc → Addr} {S : Sta} (A : Ats C H0 ad S H) (b : Bool) (i : Nat)
    (kp : Keeps [ad (.pm b), ad (.pt b)] (upd H (ad (.m b)) (.lst (((S.ms b).eraseIdx i).map strV))) H2) (S2 : Shf C H2 (ad (.x b)) (ad (.d b)) (ad (.pm b)) (ad (.pt b)) (S.L b) ((S.ms b).eraseIdx i) ((S.ts b).eraseIdx i)) :
    Ats C H0 ad (S.set b ((S.ms b).eraseIdx i) ((S.ts b).eraseIdx i) (S.l b)) (upd H2 (ad (.t b)) (.lst (((S.ts b).eraseIdx i).map strV))) := by
  have ne : ∀ {l l' : Plc}, l ≠ l' → ad l ≠ ad l' := fun h z => h (A.inj _ _ z)
  have nin : ∀ {l : Plc}, l ≠ .pm b → l ≠ .pt b → ad l ∉ [ad (.pm b), ad (.pt b)] := fun h1 h2 z => by
    rcases List.mem_cons.mp z with z | z
    · exact ne h1 z
    · exact ne h2 (List.mem_singleton.mp z)
  have h3 : ∀ l, l ≠ .m b → l ≠ .pm b → l ≠ .pt b → l ≠ .t b → upd H2 (ad (.t b)) (.lst (((S.ts b).eraseIdx i).map strV)) (ad l) = some (hof C ad S l) := fun l n1 n2 n3 n4 => by
    rw [upd_ne (ne n4)]
    refine kp _ _ ?_ (nin n2 n3)
    rw [upd_ne (ne n1)]
    exact A.val l
  have g5 : hof C ad (S.set b ((S.ms b).eraseIdx i) ((S.ts b).eraseIdx i) (S.l b)) .q5 = hof C ad S .q5 := by
    cases b <;> rfl
  refine ⟨A.inj, fun l => ?_, A.fre, ?_⟩
  · cases l with
    | q1 => exact h3 _ (fun z => nomatch z) (fun z => nomatch z) (fun z => nomatch z) (fun z => nomatch z)
    | q2 => exact h3 _ (fun z => nomatch z) (fun z => nomatch z) (fun z => nomatch z) (fun z => nomatch z)
    | q3 => exact h3 _ (fun z => nomatch z) (fun z => nomatch z) (fun z => nomatch z) (fun z => nomatch z)
    | q4 => exact h3 _ (fun z => nomatch z) (fun z => nomatch z) (fun z => nomatch z) (fun z => nomatch z)
    | q5 => rw [g5]; exact h3 _ (fun z => nomatch z) (fun z => nomatch z) (fun z => nomatch z) (fun z => nomatch z)
    | x c => exact h3 _ (fun z => nomatch z) (fun z => nomatch z) (fun z => nomatch z) (fun z => nomatch z)
    | d c => exact h3 _ (fun z => nomatch z) (fun z => nomatch z) (fun z => nomatch z) (fun z => nomatch z)
    | t c =>
      by_cases e : c = b
      · subst e
        rw [upd_same]
        simp only [hof, Sta.set, if_true]
      · rw [h3 (.t c) (fun z => nomatch z) (fun z => nomatch z) (fun z => nomatch z) (fun z => e (Plc.t.inj z))]
        simp only [hof, Sta.set, if_neg e]
    | m c =>
      by_cases e : c = b
      · subst e
        rw [upd_ne (ne (show Plc.m c ≠ Plc.t c from fun z => nomatch z)), kp _ _ upd_same (nin (fun z => nomatch z) (fun z => nomatch z))]
        simp only [hof, Sta.set, if_true]
      · rw [h3 (.m c) (fun z => e (Plc.m.inj z)) (fun z => nomatch z) (fun z => nomatch z) (fun z => nomatch z)]
        simp only [hof, Sta.set, if_neg e]
    | pm c =>
      by_cases e : c = b
      · subst e
        rw [upd_ne (ne (show Plc.pm c ≠ Plc.t c from fun z => nomatch z)), S2.mar]
        simp only [hof, Sta.set, if_true]
      · rw [h3 (.pm c) (fun z => nomatch z) (fun z => e (Plc.pm.inj z)) (fun z => nomatch z) (fun z => nomatch z)]
        simp only [hof, Sta.set, if_neg e]
    | pt c =>
      by_cases e : c = b
      · subst e
        rw [upd_ne (ne (show Plc.pt c ≠ Plc.t c from fun z => nomatch z)), S2.thi]
        simp only [hof, Sta.set, if_true]
      · rw [h3 (.pt c) (fun z => nomatch z) (fun z => nomatch z) (fun z => e (Plc.pt.inj z)) (fun z => nomatch z)]
        simp only [hof, Sta.set, if_neg e]
  · exact (same_keep (A.sm.set (A.fre _)) kp fun a ha => by
      rcases List.mem_cons.mp ha with z | z
      · rw [z]; exact A.fre _
      · rw [List.mem_singleton.mp z]; exact A.fre _).set (A.fre _)
def adP (ad : Plc → Addr) (b : Bool) (pm pt : Addr) : Plc → Addr
  | .pm c => if c = b then pm else ad (.pm c)
  | .pt c => if c = b then pt else ad (.pt c)
  | .q1 => ad .q1
  | .q2 => ad .q2
  | .q3 => ad .q3
  | .q4 => ad .q4
  | .q5 => ad .q5
  | .t c => ad (.t c)
  | .m c => ad (.m c)
  | .x c => ad (.x c)
  | .d c => ad (.d c)
theorem adP_inj {C : Addr} {H0 H : Hp} {ad : Plc → Addr} {S : Sta} (A : Ats C H0 ad S H) {b : Bool} {pm pt : Addr} (h1 : H pm = none) (h2 : H pt = none) (ne : pm ≠ pt) : ∀ l l', adP ad b pm pt l = adP ad b pm pt l' → l = l' := by
  have a1 : ∀ l, ad l ≠ pm := fun l z => by have := A.val l; rw [z, h1] at this; cases this
  have a2 : ∀ l, ad l ≠ pt := fun l z => by have := A.val l; rw [z, h2] at this; cases this
  have form : ∀ l, (l = .pm b ∧ adP ad b pm pt l = pm) ∨ (l = .pt b ∧ adP ad b pm pt l = pt) ∨ adP ad b pm pt l = ad l := fun l => by
    cases l with
    | pm c =>
      by_cases e : c = b
      · exact .inl ⟨by rw [e], if_pos e⟩
      · exact .inr (.inr (if_neg e))
    | pt c =>
      by_cases e : c = b
      · exact .inr (.inl ⟨by rw [e], if_pos e⟩)
      · exact .inr (.inr (if_neg e))
    | _ => exact .inr (.inr rfl)
  intro l l' h
  rcases form l with ⟨e1, f1⟩ | ⟨e1, f1⟩ | f1 <;> rcases form l' with ⟨e2, f2⟩ | ⟨e2, f2⟩ | f2 <;> rw [f1, f2] at h
  · rw [e1, e2]
  · exact absurd h ne
  · exact absurd h.symm (a1 _)
  · exact absurd h.symm ne
  · rw [e1, e2]
  · exact absurd h.symm (a2 _)
  · exact absurd h (a1 _)
  · exact absurd h (a2 _)
  · exact A.inj _ _ h
theorem Ats.put {C : Addr} {H0 H H2 : Hp} {ad : Plc → Addr} {S : Sta} (A : Ats C H0 ad S H) (b : Bool) {pm pt : Addr} {ms ts : List (List Nat)} {l : Nat}
    (kp : Keeps [ad (.x b)] H H2) (S2 : Shf C H2 (ad (.x b)) (ad (.d b)) pm pt (S.L b) ms ts) (h1 : H pm = none) (h2 : H pt = none) {H5 : Hp}
    (f : ∀ a o, a ≠ ad (.m b) → a ≠ ad (.t b) → a ≠ ad .q5 → H2 a = some o → H5 a = some o) (fm : H5 (ad (.m b)) = some (.lst (ms.map strV))) (ft : H5 (ad (.t b)) = some (.lst (ts.map strV)))
    (fq : H5 (ad .q5) = some (hof C ad (S.set b ms ts l) .q5)) :
    Ats C H0 (adP ad b pm pt) (S.set b ms ts l) H5 := by
  have ne : ∀ {l l' : Plc}, l ≠ l' → ad l ≠ ad l' := fun h z => h (A.inj _ _ z)
  have a1 : ∀ l, pm ≠ ad l := fun l z => by have := A.val l; rw [← z, h1] at this; cases this
  have a2 : ∀ l, pt ≠ ad l := fun l z => by have := A.val l; rw [← z, h2] at this; cases this
  have h3 : ∀ l, l ≠ .m b → l ≠ .t b → l ≠ .x b → l ≠ .q5 → H5 (ad l) = some (hof C ad S l) := fun l n1 n2 n3 n4 =>
    f _ _ (ne n1) (ne n2) (ne n4) (kp _ _ (A.val l) (fun z => ne n3 (List.mem_singleton.mp z)))
  refine ⟨adP_inj A h1 h2 S2.ne, fun l => ?_, fun l => ?_, ?_⟩
  · cases l with
    | q1 => exact h3 .q1 (fun z => nomatch z) (fun z => nomatch z) (fun z => nomatch z) (fun z => nomatch z)
    | q2 => exact h3 .q2 (fun z => nomatch z) (fun z => nomatch z) (fun z => nomatch z) (fun z => nomatch z)
    | q3 => exact h3 .q3 (fun z => nomatch z) (fun z => nomatch z) (fun z => nomatch z) (fun z => nomatch z)
    | q4 => exact h3 .q4 (fun z => nomatch z) (fun z => nomatch z) (fun z => nomatch z) (fun z => nomatch z)
    | q5 => exact fq
    | d c => exact h3 (.d c) (fun z => nomatch z) (fun z => nomatch z) (fun z => nomatch z) (fun z => nomatch z)
    | x c =>
      by_cases e : c = b
      · subst e
        refine (f _ _ (ne (show Plc.x c ≠ Plc.m c from fun z => nomatch z)) (ne (show Plc.x c ≠ Plc.t c from fun z => nomatch z)) (ne (show Plc.x c ≠ Plc.q5 from fun z => nomatch z)) S2.ins).trans ?_
        simp only [hof, Sta.set, adP, if_true]
      · refine (h3 (.x c) (fun z => nomatch z) (fun z => nomatch z) (fun z => e (Plc.x.inj z)) (fun z => nomatch z)).trans ?_
        simp only [hof, Sta.set, adP, if_neg e]
    | t c =>
      by_cases e : c = b
      · subst e
        refine ft.trans ?_
        simp only [hof, Sta.set, if_true]
      · refine (h3 (.t c) (fun z => nomatch z) (fun z => e (Plc.t.inj z)) (fun z => nomatch z) (fun z => nomatch z)).trans ?_
        simp only [hof, Sta.set, if_neg e]
    | m c =>
      by_cases e : c = b
      · subst e
        refine fm.trans ?_
        simp only [hof, Sta.set, if_true]
      · refine (h3 (.m c) (fun z => e (Plc.m.inj z)) (fun z => nomatch z) (fun z => nomatch z) (fun z => nomatch z)).trans ?_
        simp only [hof, Sta.set, if_neg e]
    | pm c =>
      by_cases e : c = b
      · subst e
        have := f _ _ (a1 _) (a1 _) (a1 _) S2.mar
        simp only [hof, Sta.set, adP, if_true]
        exact this
      · have := h3 (.pm c) (fun z => nomatch z) (fun z => nomatch z) (fun z => nomatch z) (fun z => nomatch z)
        simp only [hof, Sta.set, adP, if_neg e]
        exact this
    | pt c =>
      by_cases e : c = b
      · subst e
        have := f _ _ (a2 _) (a2 _) (a2 _) S2.thi
        simp only [hof, Sta.set, adP, if_true]
        exact this
      · have := h3 (.pt c) (fun z => nomatch z) (fun z => nomatch z) (fun z => nomatch z) (fun z => nomatch z)
        simp only [hof, Sta.set, adP, if_neg e]
        exact this
  · cases l with
    | pm c =>
      by_cases e : c = b
      · simp only [adP, if_pos e]; exact A.sm.free h1
      · simp only [adP, if_neg e]; exact A.fre _
    | pt c =>
      by_cases e : c = b
      · simp only [adP, if_pos e]; exact A.sm.free h2
      · simp only [adP, if_neg e]; exact A.fre _
    | _ => exact A.fre _
  · have s2 : Same H0 H2 := same_keep A.sm kp fun a ha => by rw [List.mem_singleton.mp ha]; exact A.fre _
    exact fun a o e => f a o (fun z => by rw [z, A.fre] at e; cases e) (fun z => by rw [z, A.fre] at e; cases e) (fun z => by rw [z, A.fre] at e; cases e) (s2 a o e)
end L2
set_option Elab.async false
set_option linter.all false
set_option maxRecDepth 100000
set_option maxHeartbeats 4000000
namespace L2
open PySem PySem.Spec PyProof.Rows MM
structure Own (H0 H : Hp) (as : List Addr) : Prop where
  nd : as.Nodup
  sm : Same H0 H
  fr : ∀ a ∈ as, H0 a = none
  lv : ∀ a ∈ as, ∃ o, H a = some o
theorem Own.none (H : Hp) : Own H H [] := ⟨.nil, Same.refl _, fun a h => (nomatch h), fun a h => (nomatch h)⟩
theorem Own.same {H0 H H' : Hp} {as : List Addr} (O : Own H0 H as) (s : Same H H') : Own H0 H' as := ⟨O.nd, O.sm.trans s, O.fr, fun a h => by obtain ⟨o, e⟩ := O.lv a h; exact ⟨o, s _ _ e⟩⟩
theorem Own.add {H0 H H' : Hp} {as : List Addr} {a : Addr} (O : Own H0 H as) (s : Same H H') (h : H a = Option.none) (hl : ∃ o, H' a = some o) : Own H0 H' (a :: as) := by
  refine ⟨List.nodup_cons.mpr ⟨fun z => ?_, O.nd⟩, O.sm.trans s, fun b hb => ?_, fun b hb => ?_⟩
  · obtain ⟨o, e⟩ := O.lv a z
    rw [h] at e
    cases e
  · rcases List.mem_cons.mp hb with e | e
    · rw [e]; exact O.sm.free h
    · exact O.fr b e
  · rcases List.mem_cons.mp hb with e | e
    · rw [e]; exact hl
    · obtain ⟨o, e⟩ := O.lv b e
      exact ⟨o, s _ _ e⟩
theorem Own.new {H0 H : Hp} {as : List Addr} {a : Addr} {o : HO} (O : Own H0 H as) (h : H a = Option.none) : Own H0 (upd H a o) (a :: as) := O.add (Same.up _ h) h ⟨_, upd_same⟩
theorem Own.shelf {H0 H H' : Hp} {as : List Addr} {C x dx pm pt : Addr} {L : Nat} {ms ts : List (List Nat)} (O : Own H0 H as) (s : Same H H') (S : Shf C H' x dx pm pt L ms ts) (h1 : H x = Option.none) (h2 : H dx = Option.none) (h3 : H pm = Option.none) (h4 : H pt = Option.none) :
    Own H0 H' (x :: dx :: pm :: pt :: as) := by
  have nmx : pm ≠ x := fun z => by subst z; have := S.ins.symm.trans S.mar; cases this
  have nmd : pm ≠ dx := fun z => by subst z; have := S.own.symm.trans S.mar; cases this
  have ntx : pt ≠ x := fun z => by subst z; have := S.ins.symm.trans S.thi; cases this
  have ntd : pt ≠ dx := fun z => by subst z; have := S.own.symm.trans S.thi; cases this
  have nxd : x ≠ dx := fun z => by subst z; have := S.own.symm.trans S.ins; cases this
  have out : ∀ {a : Addr}, H a = Option.none → a ∉ as := fun h z => by obtain ⟨o, e⟩ := O.lv _ z; rw [h] at e; cases e
  refine ⟨?_, O.sm.trans s, fun b hb => ?_, fun b hb => ?_⟩
  · refine List.nodup_cons.mpr ⟨fun z => ?_, List.nodup_cons.mpr ⟨fun z => ?_, List.nodup_cons.mpr ⟨fun z => ?_, List.nodup_cons.mpr ⟨out h4, O.nd⟩⟩⟩⟩
    · rcases List.mem_cons.mp z with e | z
      · exact nxd e
      rcases List.mem_cons.mp z with e | z
      · exact nmx e.symm
      rcases List.mem_cons.mp z with e | z
      · exact ntx e.symm
      · exact out h1 z
    · rcases List.mem_cons.mp z with e | z
      · exact nmd e.symm
      rcases List.mem_cons.mp z with e | z
      · exact ntd e.symm
      · exact out h2 z
    · rcases List.mem_cons.mp z with e | z
      · exact S.ne e
      · exact out h3 z
  · rcases List.mem_cons.mp hb with e | hb
    · rw [e]; exact O.sm.free h1
    rcases List.mem_cons.mp hb with e | hb
    · rw [e]; exact O.sm.free h2
    rcases List.mem_cons.mp hb with e | hb
    · rw [e]; exact O.sm.free h3
    rcases List.mem_cons.mp hb with e | hb
    · rw [e]; exact O.sm.free h4
    · exact O.fr b hb
  · rcases List.mem_cons.mp hb with e | hb
    · rw [e]; exact ⟨_, S.ins⟩
    rcases List.mem_cons.mp hb with e | hb
    · rw [e]; exact ⟨_, S.own⟩
    rcases List.mem_cons.mp hb with e | hb
    · rw [e]; exact ⟨_, S.mar⟩
    rcases List.mem_cons.mp hb with e | hb
    · rw [e]; exact ⟨_, S.thi⟩
    · obtain ⟨o, e⟩ := O.lv b hb
      exact ⟨o, s _ _ e⟩
end L2
set_option Elab.async false
set_option linter.all false
set_option maxRecDepth 100000
set_option maxHeartbeats 4000000
namespace L2
open PySem PySem.Spec PyProof.Rows MM
theorem Good.mono {L k k' : Nat} {ms ts : List (List Nat)} (G : Good L ms ts k) (h : k ≤ k') : Good L ms ts k' := ⟨G.row, G.th, Nat.le_trans G.few h, fun m hm => Nat.le_trans (G.len m hm) h⟩
theorem Good.renew {L k n : Nat} {ms ts : List (List Nat)} (G : Good L ms ts k) (R : IsRen L ts.length n) : Good L (renL L ts.length n) ts k := by
  have h2 := G.row.l2
  have hf := G.row.few
  have hn := R.le h2
  have hm := renL_mem (L := L) (by omega) R
  refine ⟨⟨h2, G.row.l26, renL_len _ _ _, hf, fun m h => ⟨(hm m h).1, by have := (hm m h).2; omega⟩, renL_lt (by omega) R⟩, G.th, G.few, fun m h => ?_⟩
  have := (hm m h).2
  have := G.few
  omega
structure One (C : Addr) (H0 H : Hp) (x dx pm pt p : Addr) (L : Nat) (ms ts : List (List Nat)) : Prop where
  shf : Shf C H x dx pm pt L ms ts
  lst : H p = some (.lst (ts.map strV))
  n1 : p ≠ pm
  n2 : p ≠ pt
  fx : H0 x = none
  fm : H0 pm = none
  ft : H0 pt = none
  fp : H0 p = none
  sm : Same H0 H
section
variable {C : Addr} {H0 H H2 : Hp} {x dx pm pt p : Addr} {L : Nat} {ms ts : List (List Nat)}
theorem One.same (O : One C H0 H x dx pm pt p L ms ts) (s : Same H H2) : One C H0 H2 x dx pm pt p L ms ts := ⟨O.shf.same s, s _ _ O.lst, O.n1, O.n2, O.fx, O.fm, O.ft, O.fp, O.sm.trans s⟩
theorem One.px (O : One C H0 H x dx pm pt p L ms ts) : p ≠ x := fun z => by subst z; have := O.lst.symm.trans O.shf.ins; cases this
theorem One.pd (O : One C H0 H x dx pm pt p L ms ts) : p ≠ dx := fun z => by subst z; have := O.lst.symm.trans O.shf.own; cases this
theorem One.to (O : One C H0 H x dx pm pt p L ms ts) {pm' pt' : Addr} {ms' ts' : List (List Nat)} (S : Shf C H2 x dx pm' pt' L ms' ts') (h1 : p ≠ pm') (h2 : p ≠ pt') (f1 : H0 pm' = none) (f2 : H0 pt' = none) (s : Same H0 H2) : One C H0 (upd H2 p (.lst (ts'.map strV))) x dx pm' pt' p L ms' ts' :=
  ⟨⟨by rw [upd_ne (Ne.symm O.px)]; exact S.ins, by rw [upd_ne (Ne.symm O.pd)]; exact S.own, by rw [upd_ne (Ne.symm h1)]; exact S.mar, by rw [upd_ne (Ne.symm h2)]; exact S.thi, S.ne⟩, upd_same, h1, h2, O.fx, f1, f2, O.fp, s.set O.fp⟩
theorem One.put (O : One C H0 H x dx pm pt p L ms ts) {pm' pt' : Addr} {ms' ts' : List (List Nat)} (k : Keeps [x] H H2) (S : Shf C H2 x dx pm' pt' L ms' ts') (h1 : H pm' = none) (h2 : H pt' = none) : H2 p = some (.lst (ts.map strV)) ∧ One C H0 (upd H2 p (.lst (ts'.map strV))) x dx pm' pt' p L ms' ts' :=
  ⟨k _ _ O.lst (fun z => O.px (List.mem_singleton.mp z)), O.to S (fun z => by subst z; rw [O.lst] at h1; cases h1) (fun z => by subst z; rw [O.lst] at h2; cases h2) (O.sm.free h1) (O.sm.free h2) (same_keep O.sm k fun a ha => by rw [List.mem_singleton.mp ha]; exact O.fx)⟩
theorem One.take (O : One C H0 H x dx pm pt p L ms ts) {ms' ts' : List (List Nat)} (k : Keeps [pm, pt] H H2) (S : Shf C H2 x dx pm pt L ms' ts') : H2 p = some (.lst (ts.map strV)) ∧ One C H0 (upd H2 p (.lst (ts'.map strV))) x dx pm pt p L ms' ts' :=
  ⟨k _ _ O.lst (fun z => by
      rcases List.mem_cons.mp z with z | z
      · exact O.n1 z
      · exact O.n2 (List.mem_singleton.mp z)), O.to S O.n1 O.n2 O.fm O.ft (same_keep O.sm k fun a ha => by
      rcases List.mem_cons.mp ha with z | z
      · rw [z]; exact O.fm
      · rw [List.mem_singleton.mp z]; exact O.ft)⟩
theorem One.renew (O : One C H0 H x dx pm pt p L ms ts) {pm' : Addr} {ms' : List (List Nat)} (k : Keeps [x] H H2) (S : Shf C H2 x dx pm' pt L ms' ts) (h1 : H pm' = none) : One C H0 H2 x dx pm' pt p L ms' ts :=
  ⟨S, k _ _ O.lst (fun z => O.px (List.mem_singleton.mp z)), (fun z => by subst z; rw [O.lst] at h1; cases h1), O.n2, O.fx, O.sm.free h1, O.ft, O.fp, same_keep O.sm k fun a ha => by rw [List.mem_singleton.mp ha]; exact O.fx⟩
end
end L2
set_option Elab.async false
set_option linter.all false
set_option maxRecDepth 100000
set_option maxHeartbeats 4000000
namespace L2
open PySem PySem.Spec PyProof.Rows MM
end L2
set_option Elab.async false
set_option linter.all false
set_option maxRecDepth 100000
set_option maxHeartbeats 4000000
namespace L2
open PySem PySem.Spec PyProof.Rows MM
theorem ob_zero {L : Nat} {es : List Nat} (hL : 0 < L) (E : MM.Ends L es) : MM.ob L es 0 = 0 := by
  unfold MM.ob MM.cnt
  rw [Nat.zero_div, Nat.zero_mul, Nat.zero_mod, Nat.zero_add, List.filter_eq_nil_iff.mpr]
  · rfl
  · intro e he
    have := E.lo e he
    simp
    omega
theorem ob_all {L : Nat} (hL : 2 ≤ L) : ∀ N, MM.ob L (endsL L 1 0) (N + 1) + N / L = N
  | 0 => by
    have hL0 : 0 < L := by omega
    have E := ends_ok (K := L) (h := 1) (j := 0) (by decide) (by omega)
    rw [ob_succ hL0 E, if_neg (fun z => (own_all hL0).mp z (Nat.zero_mod L)), ob_zero hL0 E, Nat.zero_div]
  | N + 1 => by
    have hL0 : 0 < L := by omega
    have E := ends_ok (K := L) (h := 1) (j := 0) (by decide) (by omega)
    have ih := ob_all hL N
    rw [ob_succ hL0 E, Nat.succ_div]
    by_cases h : (N + 1) % L = 0
    · rw [if_neg (fun z => (own_all hL0).mp z h), if_pos (Nat.dvd_of_mod_eq_zero h)]
      omega
    · rw [if_pos ((own_all hL0).mpr h), if_neg (fun z => h (Nat.mod_eq_zero_of_dvd z))]
      omega
theorem obI {L w : Nat} (hL : 2 ≤ L) (hw : 1 ≤ w) : ((w : Int) - 1) - ((w : Int) - 1) / (L : Int) = ((MM.ob L (endsL L 1 0) w : Nat) : Int) := by
  obtain ⟨N, rfl⟩ : ∃ N, w = N + 1 := ⟨w - 1, by omega⟩
  have h := ob_all hL N
  have e : ((N + 1 : Nat) : Int) - 1 = (N : Int) := by omega
  rw [e, show (N : Int) / (L : Int) = ((N / L : Nat) : Int) from (Int.natCast_ediv _ _).symm]
  omega
theorem hiN_pos {L n : Nat} {lo hi : Option (List Nat)} (hL : 2 ≤ L) (M : MarksOk L lo hi) : 1 ≤ hiN L hi n := by
  cases hi with
  | none => exact Nat.le_trans (Nat.le_add_left 1 n) (Nat.lt_pow_self (n := n) (show 1 < L by omega))
  | some h =>
    obtain ⟨mh, _⟩ := M.mhi h rfl
    have ea : hiN L (some h) n = if n < h.length then val L h n + 1 else val L h n := rfl
    rw [ea]
    by_cases z : n < h.length
    · rw [if_pos z]; omega
    · rw [if_neg z]
      exact val_pos (by omega) n mh.ls mh.na mh.ne (by omega)
end L2
set_option Elab.async false
set_option linter.all false
set_option maxRecDepth 100000
set_option maxHeartbeats 4000000
namespace L2
open PySem PySem.Spec PyProof.Rows MM
structure Stem (L : Nat) (lo hi : Option (List Nat)) (n w : Nat) (m : List Nat) : Prop where
  least : LeastB false L (endsL L 1 0) lo hi 1 n
  eq : m = low L w n
  own : ow L (endsL L 1 0) w = true
  ge : valO L lo n + 1 ≤ w
  lt : w < highO L hi n
  at_ : (MM.ob L (endsL L 1 0) w : Int) = (MM.ob L (endsL L 1 0) (valO L lo n + 1) : Int) + (roomB false L (endsL L 1 0) lo hi n - 1) / 2
theorem lt_app {t : List Nat} : ∀ {l m : List Nat}, l < m → l < m ++ t
  | l, [], h => absurd h (List.not_lt_nil _)
  | [], c :: m, _ => by simp
  | a :: l, c :: m, h => by
    rw [List.cons_append, List.cons_lt_cons_iff]
    rcases List.cons_lt_cons_iff.mp h with z | ⟨z1, z2⟩
    · exact .inl z
    · exact .inr ⟨z1, lt_app z2⟩
theorem val_lt_app {K : Nat} (hK : 0 < K) {t : List Nat} : ∀ {x h : List Nat} (n : Nat), Ls K x → Ls K h → x.length = n → val K x n < val K h n → x ++ t < h ∧ h.take n ≠ x
  | [], h, n, _, _, e, hv => by
    obtain rfl : n = 0 := by simpa using e.symm
    rw [val_zero, val_zero] at hv
    omega
  | c :: x, [], n, _, _, _, hv => by rw [val_nil] at hv; omega
  | c :: x, d :: h, 0, _, _, e, _ => by simp at e
  | c :: x, d :: h, n + 1, hx, hh, e, hv => by
    rw [val_cons, val_cons, lt_parts (val_lt hK n hx.tail) (val_lt hK n hh.tail), (sub97 hx.head.1 hh.head.1).1, (sub97 hx.head.1 hh.head.1).2] at hv
    rw [List.cons_append, List.cons_lt_cons_iff, List.take_succ_cons]
    rcases hv with z | ⟨rfl, z⟩
    · exact ⟨.inl z, fun e => by have := (List.cons.inj e).1; omega⟩
    · obtain ⟨a, b⟩ := val_lt_app hK (t := t) n hx.tail hh.tail (by simpa using e) z
      exact ⟨.inr ⟨rfl, a⟩, fun e => b (List.cons.inj e).2⟩
theorem val_take (K : Nat) : ∀ (u : List Nat) (n : Nat), val K (u.take n) n = val K u n
  | u, 0 => by rw [val_zero, val_zero]
  | [], n + 1 => rfl
  | c :: u, n + 1 => by rw [List.take_succ_cons, val_cons, val_cons, val_take K u n]
section
variable {L n w : Nat} {lo hi : Option (List Nat)} {m : List Nat}
theorem high_le (hL : 0 < L) (M : MarksOk L lo hi) : highO L hi n ≤ L ^ n := by
  cases hi with
  | none => exact Nat.le_refl _
  | some u => exact Nat.le_of_lt (val_lt hL n (M.mhi u rfl).1.ls)
theorem Stem.all (S : Stem L lo hi n w m) (hL : 2 ≤ L) (M : MarksOk L lo hi) (ok : OkLH lo hi) :
    Mark L m ∧ m.length = n ∧ val L m n = w ∧ n ≤ 1 + max (lenO lo) (lenO hi) ∧ (∀ l, lo = some l → ∀ t, l < m ++ t) ∧ ∀ u, hi = some u → ∀ t, m ++ t < u ∧ u.take n ≠ m := by
  have hL0 : 0 < L := by omega
  have hw : w < L ^ n := Nat.lt_of_lt_of_le S.lt (high_le hL0 M)
  have hm : m.length = n := by rw [S.eq, low_length]
  have hv : val L m n = w := by rw [S.eq, low_val_eq hL0, Nat.mod_eq_of_lt hw]
  have h0 := (own_all hL0).mp S.own
  have hn1 := S.least.pos
  have hnl := S.least.len1 hL (ends_ok (K := L) (h := 1) (j := 0) (by decide) (by omega)) M ok
  have hls : Ls L m := by rw [S.eq]; exact low_ls hL0 _ _
  obtain ⟨n', rfl⟩ : ∃ n', n = n' + 1 := ⟨n - 1, by omega⟩
  refine ⟨⟨hls, fun c hc => ?_, fun z => by rw [z] at hm; simp at hm⟩, hm, hv, hnl, fun l e t => lt_app ?_, fun u e t => ?_⟩
  · rw [S.eq, low_last hL0] at hc
    have := Option.some.inj hc
    omega
  · rw [S.eq, low_iff hL0 hw h0 (M.mlo l e).1.ls]
    have := S.ge
    rw [e] at this
    exact this
  · refine val_lt_app hL0 (n' + 1) hls (M.mhi u e).1.ls hm ?_
    have := S.lt
    rw [e] at this
    rw [hv]
    exact this
def Begins (lo hi : Option (List Nat)) (n : Nat) : Prop := ∃ u, hi = some u ∧ n < u.length ∧ (u.take n).getLast? ≠ some 97 ∧ ∀ l, lo = some l → l < u.take n
structure StemsZ (L : Nat) (lo hi : Option (List Nat)) (n : Nat) (z : Int) : Prop where
  yes : Begins lo hi n → z = roomI L (endsL L 1 0) lo hi n - 1
  no : ¬ Begins lo hi n → z = roomI L (endsL L 1 0) lo hi n
theorem last_take {u : List Nat} {n' : Nat} (hL : 0 < L) (mu : Mark L u) (h : n' + 1 < u.length) : (u.take (n' + 1)).getLast? = some (97 + val L u (n' + 1) % L) := by
  have hl : (u.take (n' + 1)).length = n' + 1 := by rw [List.length_take]; omega
  have hc := mu.ls u[n'] (List.getElem_mem (by omega))
  rw [List.getLast?_eq_getElem?, hl, Nat.add_sub_cancel, List.getElem?_take, if_pos (by omega), List.getElem?_eq_getElem (by omega), val_succ, Nat.mul_comm, Nat.mul_add_mod]
  have e : fig u n' = u[n'] - 97 := by unfold fig; rw [List.getElem?_eq_getElem (by omega)]
  rw [e, Nat.mod_eq_of_lt (by omega)]
  congr 1
  omega
theorem take_mark {u : List Nat} (mu : Mark L u) (hn : 1 ≤ n) (h : n < u.length) (hl : (u.take n).getLast? ≠ some 97) : Mark L (u.take n) :=
  ⟨mu.ls.sub fun c hc => List.mem_of_mem_take hc, fun c hc e => hl (by rw [hc, e]), fun e => by have h2 := congrArg List.length e; rw [List.length_take, List.length_nil] at h2; omega⟩
theorem begins_lt {l u : List Nat} (hL : 0 < L) (ml : Mark L l) (mu : Mark L u) (hn : 1 ≤ n) (h : n < u.length) (hl : (u.take n).getLast? ≠ some 97) : l < u.take n ↔ val L l n < val L u n := by
  have mt := take_mark mu hn h hl
  rw [low_val hL n ml.ls mt.ls mt.na (by rw [List.length_take]; omega), val_take]
theorem StemsZ.is {z : Int} (S : StemsZ L lo hi n z) (hL : 2 ≤ L) (M : MarksOk L lo hi) (hn : 1 ≤ n) (hv : valO L lo n < highO L hi n) : z = roomB false L (endsL L 1 0) lo hi n := by
  have hL0 : 0 < L := by omega
  have E := ends_ok (K := L) (h := 1) (j := 0) (by decide) (by omega)
  cases hi with
  | none => exact S.no fun ⟨u, e, _⟩ => nomatch e
  | some u =>
    have mu := (M.mhi u rfl).1
    have hv : valO L lo n < val L u n := hv
    have e1 : roomI L (endsL L 1 0) lo (some u) n = (MM.ob L (endsL L 1 0) (if n < u.length then val L u n + 1 else val L u n) : Nat) - (MM.ob L (endsL L 1 0) (valO L lo n + 1) : Nat) := rfl
    have e2 : roomB false L (endsL L 1 0) lo (some u) n = (MM.ob L (endsL L 1 0) (val L u n) : Nat) - (MM.ob L (endsL L 1 0) (valO L lo n + 1) : Nat) := rfl
    by_cases c : n < u.length
    · rw [if_pos c, ob_succ hL0 E] at e1
      obtain ⟨n', rfl⟩ : ∃ n', n = n' + 1 := ⟨n - 1, by omega⟩
      have lt := last_take hL0 mu c
      by_cases d : val L u (n' + 1) % L = 0
      · have no : ¬ Begins lo (some u) (n' + 1) := fun ⟨u', e, _, h, _⟩ => by
          cases e
          rw [lt, d] at h
          exact h rfl
        rw [if_neg (fun z => (own_all hL0).mp z d)] at e1
        rw [S.no no, e1, e2]
        omega
      · have hl : (u.take (n' + 1)).getLast? ≠ some 97 := fun e => by
          rw [lt] at e
          have := Option.some.inj e
          omega
        have yes : Begins lo (some u) (n' + 1) := ⟨u, rfl, c, hl, fun l e => (begins_lt hL0 (M.mlo l e).1 mu hn c hl).mpr (by rw [e] at hv; exact hv)⟩
        rw [if_pos ((own_all hL0).mpr d)] at e1
        rw [S.yes yes, e1, e2]
        omega
    · rw [if_neg c] at e1
      rw [S.no fun ⟨u', e, h, _⟩ => by cases e; exact c h, e1, e2]
theorem StemsZ.small {z : Int} (S : StemsZ L lo hi n z) (hL : 2 ≤ L) (M : MarksOk L lo hi) (ok : OkLH lo hi) (hn : 1 ≤ n) (h : roomB false L (endsL L 1 0) lo hi n < 1) : z ≤ 0 := by
  have hL0 : 0 < L := by omega
  have E := ends_ok (K := L) (h := 1) (j := 0) (by decide) (by omega)
  rcases Nat.lt_or_ge (valO L lo n) (highO L hi n) with g | g
  · rw [S.is hL M hn g]
    omega
  · have le : hiN L hi n ≤ loN L lo n := by
      show aheadN hi (highO L hi n) n ≤ valO L lo n + 1
      cases hi with
      | none => exact Nat.le_succ_of_le g
      | some u =>
        have g : val L u n ≤ valO L lo n := g
        show (if n < u.length then val L u n + 1 else val L u n) ≤ _
        split <;> omega
    have mono := ob_mono hL0 E le
    have r : roomI L (endsL L 1 0) lo hi n ≤ 0 := by
      show ((MM.ob L (endsL L 1 0) (hiN L hi n) : Nat) : Int) - ((MM.ob L (endsL L 1 0) (loN L lo n) : Nat) : Int) ≤ 0
      omega
    by_cases b : Begins lo hi n
    · rw [S.yes b]; omega
    · rw [S.no b]; exact r
end
def spStem (c : Addr) : Sp := fun vs H Q E => ∃ (L : Nat) (lo hi : Option (List Nat)), vs = [.int L, oV lo, oV hi] ∧ 2 ≤ L ∧ L ≤ 26 ∧ MarksOk L lo hi ∧ (OkLH lo hi → ∀ H' n w m, Same H H' → Stem L lo hi n w m → Q (.str (txt m)) H') ∧ (¬ OkLH lo hi → E (.ref c) none H)
def rdStem (c : Addr) (E : XK) : TS :=
    tSeq (tDrop (tCall (spAskRoom c) [] E (tCons (tVar 1) (tCons (tVar 2) tNil))))
      (tSeq (tAsg (tCall spEnds [] E0 (tCons (tVar 0) (tCons (tC (.int 1)) (tCons (tC (.int 0)) tNil)))) (gName 3))
      (tSeq (tAsg (tCall spLeastC [] E0 (tCons (tVar 0) (tCons (tVar 3) (tCons (tVar 1) (tCons (tVar 2) (tCons (tC (.int 1)) (tCons (tC (.bl false)) tNil))))))) (gName 4))
      (tSeq (tAsg (tCall spCounted [] E0 (tCons (tVar 0) (tCons (tVar 3) (tCons (tVar 1) (tCons (tVar 2) (tCons (tVar 4) (tCons (tC (.bl false)) tNil))))))) (gName 5))
      (tRet (tCall (spNth c) [] E (tCons (tVar 0) (tCons (tC (.int 1)) (tCons (tC (.int 0)) (tCons (tVar 1) (tCons (tVar 2) (tCons (tVar 4) (tCons (tOp rDivI (tOp rSubI (tVar 5) (tC (.int 1))) (tC (.int 2))) tNil))))))))))))
theorem read_stem {c : Addr} {N : List Str} {vs : List V} {H : Hp} {Q : VK} {E : XK} (hN : N.length = 6) (h : spStem c vs H Q E) : rdStem c E { nx := fun _ H' => Q .non H', rt := Q } (L2.start N vs) H := by
  obtain ⟨L, lo, hi, rfl, hL, hL26, M, q1, q2⟩ := h
  unfold rdStem L2.start
  rw [hN]
  have hL0 : 0 < L := by omega
  obtain ⟨okl, okh⟩ := M.okO hL26
  have E1 := ends_ok (K := L) (h := 1) (j := 0) (by decide) (by omega)
  have hlen := M.lens
  and_intros
  refine ⟨lo, hi, rfl, fun ok => ?_, q2⟩
  and_intros
  refine ⟨L, 1, 0, rfl, hL26, by decide, fun H1 s1 => ?_⟩
  and_intros
  refine ⟨L, _, lo, hi, 1, false, rfl, hL, hL26, endsL_len hL26, E1, M, ok, by omega, by omega, fun H2 n s2 LN => ?_⟩
  have hn : n ≤ 1002 := by have := LN.len; omega
  and_intros
  refine ⟨L, _, lo, hi, n, false, rfl, hL0, hL26, endsL_len hL26, okl, okh, by omega, fun H3 s3 => ?_⟩
  and_intros
  have r1 := LN.room
  obtain ⟨k, hk⟩ := Int.eq_ofNat_of_zero_le (a := (roomB false L (endsL L 1 0) lo hi n - 1) / 2) (by omega)
  refine ⟨cdiv (by decide) (by decide), L, 1, 0, lo, hi, n, k, by rw [hk]; rfl, M.roomIn (hand1 hL hL26) (by omega), by decide, by omega, fun _ H4 s4 => ?_, fun z => absurd ok z⟩
  have q := q1 ok H4 n (nth L (endsL L 1 0) (MM.ob L (endsL L 1 0) (valO L lo n + 1) + k)) (low L (nth L (endsL L 1 0) (MM.ob L (endsL L 1 0) (valO L lo n + 1) + k)) n) (((s1.trans s2).trans s3).trans s4)
  obtain ⟨n', rfl⟩ : ∃ n', n = n' + 1 := ⟨n - 1, by have := LN.pos; omega⟩
  rw [mk_low hL0 (nth_mod E1 _)]
  obtain ⟨o1, o2⟩ := ob_nth hL0 E1 (MM.ob L (endsL L 1 0) (valO L lo (n' + 1) + 1) + k)
  have hri : roomB false L (endsL L 1 0) lo hi (n' + 1) = (MM.ob L (endsL L 1 0) (highO L hi (n' + 1)) : Nat) - (MM.ob L (endsL L 1 0) (valO L lo (n' + 1) + 1) : Nat) := rfl
  obtain ⟨i1, i2⟩ := nth_in hL0 E1 (A := valO L lo (n' + 1) + 1) (B := highO L hi (n' + 1)) (p := MM.ob L (endsL L 1 0) (valO L lo (n' + 1) + 1) + k) (by omega) (by omega)
  exact q ⟨LN, rfl, o2, i1, i2, by rw [o1, hk]; omega⟩
end L2
set_option Elab.async false
set_option linter.all false
set_option maxRecDepth 100000
set_option maxHeartbeats 4000000
namespace K41
open PySem PySem.Spec PyProof.Rows L2 MM
def top (i : Nat) : Stmt := PySem.Challenge.pw_shelfmark_k41_stems.main.body.getD i (.Pass ⟨0, 0, 0, 0⟩)
abbrev s_p21 : Stmt := top 12
abbrev s_p12 : Stmt := top 13
abbrev s_p23 : Stmt := top 14
abbrev s_p16 : Stmt := top 15
abbrev s_p11 : Stmt := top 17
abbrev s_p9 : Stmt := top 18
abbrev s_p13 : Stmt := top 19
abbrev s_p19 : Stmt := top 20
abbrev s_p20 : Stmt := top 21
abbrev s_p18 : Stmt := top 22
abbrev s_p10 : Stmt := top 23
abbrev s_p17 : Stmt := top 24
abbrev s_p15 : Stmt := top 26
abbrev s_p22 : Stmt := top 28
abbrev s_draw : Stmt := top 30
abbrev s_letters : Stmt := top 31
abbrev s_l_power : Stmt := top 32
abbrev s_whole : Stmt := top 33
abbrev s_span : Stmt := top 34
abbrev s_mark : Stmt := top 35
abbrev s_refused : Stmt := top 36
abbrev s_pair : Stmt := top 37
abbrev s_stems : Stmt := top 38
abbrev s_law : Stmt := top 39
structure Ad where
  (c_NoRoom c_ShelfError c_NoHand c_NoLetters c_NoLine c_NoPlace c_NoShelf c_NoState c_NoThing f_p21 f_p12 f_p23 f_p16 f_p11 f_p9 f_p13 f_p19 f_p20 f_p18 f_p10 f_p17 f_p15 f_p22 f_draw f_letters f_l_power f_whole f_span f_mark f_refused f_pair f_stems f_law : Addr)
  (fd_p21 fd_p12 fd_p23 fd_p16 fd_p11 fd_p9 fd_p13 fd_p19 fd_p20 fd_p18 fd_p10 fd_p17 fd_p15 fd_p22 fd_draw fd_letters fd_l_power fd_whole fd_span fd_mark fd_refused fd_pair fd_stems fd_law : FuncData)
structure Tx (K : PySem.W.Frag) (mg : Str → Option Value) (a : Ad) : Prop where
  n_ValueError : mg "ValueError" = none
  n_int : mg "int" = none
  n_isinstance : mg "isinstance" = none
  n_len : mg "len" = none
  n_max : mg "max" = none
  n_min : mg "min" = none
  n_range : mg "range" = none
  n_str : mg "str" = none
  c_SMALL : ∃ t, mg "SMALL" = some (.str "abcdefghijklmnopqrstuvwxyz" t)
  m_NoRoom : mg "NoRoom" = some (.ref a.c_NoRoom)
  x_NoRoom : PySem.W.excIn K a.c_NoRoom [.type "ValueError", .type "Exception", .type "BaseException", .type "object"] "ValueError.__new__" = true
  m_ShelfError : mg "ShelfError" = some (.ref a.c_ShelfError)
  x_ShelfError : PySem.W.excIn K a.c_ShelfError [.type "ValueError", .type "Exception", .type "BaseException", .type "object"] "ValueError.__new__" = true
  m_NoHand : mg "NoHand" = some (.ref a.c_NoHand)
  m_NoLetters : mg "NoLetters" = some (.ref a.c_NoLetters)
  m_NoLine : mg "NoLine" = some (.ref a.c_NoLine)
  m_NoPlace : mg "NoPlace" = some (.ref a.c_NoPlace)
  m_NoShelf : mg "NoShelf" = some (.ref a.c_NoShelf)
  m_NoState : mg "NoState" = some (.ref a.c_NoState)
  m_NoThing : mg "NoThing" = some (.ref a.c_NoThing)
  e_NoRoom : ExcK K a.c_NoRoom
  j_0 : PySem.W.kitOne K (.ref a.c_NoRoom) (.ref a.c_NoRoom) = some true
  j_1 : PySem.W.kitOne K (.ref a.c_NoRoom) (.type "ValueError") = some true
  j_2 : PySem.W.kitAny K (.ref a.c_NoRoom) [.ref a.c_NoHand, .ref a.c_NoLetters, .ref a.c_NoLine, .ref a.c_NoPlace, .ref a.c_NoShelf, .ref a.c_NoState, .ref a.c_NoThing] = some false
  s_NoRoom_ShelfError : PySem.W.mroIn K a.c_NoRoom (.ref a.c_ShelfError) = some true
  g_p21 : mg "power" = some (.ref a.f_p21)
  F_p21 : Fun K "power" "power" s_p21 a.f_p21 a.fd_p21
  b_p21 : Binds K a.fd_p21 ["letters", "long"] []
  g_p12 : mg "figure_at" = some (.ref a.f_p12)
  F_p12 : Fun K "figure_at" "figure_at" s_p12 a.f_p12 a.fd_p12
  b_p12 : Binds K a.fd_p12 ["mark", "place"] []
  g_p23 : mg "whole_of" = some (.ref a.f_p23)
  F_p23 : Fun K "whole_of" "whole_of" s_p23 a.f_p23 a.fd_p23
  b_p23 : Binds K a.fd_p23 ["letters", "mark", "long"] []
  g_p16 : mg "mark_of" = some (.ref a.f_p16)
  F_p16 : Fun K "mark_of" "mark_of" s_p16 a.f_p16 a.fd_p16
  b_p16 : Binds K a.fd_p16 ["letters", "number", "long"] []
  g_p11 : mg "ends_of" = some (.ref a.f_p11)
  F_p11 : Fun K "ends_of" "ends_of" s_p11 a.f_p11 a.fd_p11
  b_p11 : Binds K a.fd_p11 ["letters", "hands", "hand"] []
  g_p9 : mg "ask_room" = some (.ref a.f_p9)
  F_p9 : Fun K "ask_room" "ask_room" s_p9 a.f_p9 a.fd_p9
  b_p9 : Binds K a.fd_p9 ["low", "high"] []
  g_p13 : mg "high_whole_of" = some (.ref a.f_p13)
  F_p13 : Fun K "high_whole_of" "high_whole_of" s_p13 a.f_p13 a.fd_p13
  b_p13 : Binds K a.fd_p13 ["letters", "high", "long"] []
  g_p19 : mg "owned_below" = some (.ref a.f_p19)
  F_p19 : Fun K "owned_below" "owned_below" s_p19 a.f_p19 a.fd_p19
  b_p19 : Binds K a.fd_p19 ["letters", "ends", "number"] []
  g_p20 : mg "owned_up_to_low" = some (.ref a.f_p20)
  F_p20 : Fun K "owned_up_to_low" "owned_up_to_low" s_p20 a.f_p20 a.fd_p20
  b_p20 : Binds K a.fd_p20 ["letters", "ends", "low_whole"] []
  g_p18 : mg "owned_ahead_of_high" = some (.ref a.f_p18)
  F_p18 : Fun K "owned_ahead_of_high" "owned_ahead_of_high" s_p18 a.f_p18 a.fd_p18
  b_p18 : Binds K a.fd_p18 ["letters", "ends", "high", "high_whole", "long", "beginnings"] []
  g_p10 : mg "counted_at" = some (.ref a.f_p10)
  F_p10 : Fun K "counted_at" "counted_at" s_p10 a.f_p10 a.fd_p10
  b_p10 : Binds K a.fd_p10 ["letters", "ends", "low", "high", "long", "beginnings"] []
  g_p17 : mg "nth_mark" = some (.ref a.f_p17)
  F_p17 : Fun K "nth_mark" "nth_mark" s_p17 a.f_p17 a.fd_p17
  b_p17 : Binds K a.fd_p17 ["letters", "hands", "hand", "low", "high", "long", "number"] []
  g_p15 : mg "least_counted" = some (.ref a.f_p15)
  F_p15 : Fun K "least_counted" "least_counted" s_p15 a.f_p15 a.fd_p15
  b_p15 : Binds K a.fd_p15 ["letters", "ends", "low", "high", "many", "beginnings"] []
  g_p22 : mg "stem_between" = some (.ref a.f_p22)
  F_p22 : Fun K "stem_between" "stem_between" s_p22 a.f_p22 a.fd_p22
  b_p22 : Binds K a.fd_p22 ["letters", "low", "high"] []
  g_draw : mg "_law_draw" = some (.ref a.f_draw)
  F_draw : Fun K "_law_draw" "_law_draw" s_draw a.f_draw a.fd_draw
  b_draw : Binds K a.fd_draw ["_law_script", "_law_k", "_law_many"] []
  g_letters : mg "_law_letters" = some (.ref a.f_letters)
  F_letters : Fun K "_law_letters" "_law_letters" s_letters a.f_letters a.fd_letters
  b_letters : Binds K a.fd_letters ["_law_script"] []
  g_l_power : mg "_law_power" = some (.ref a.f_l_power)
  F_l_power : Fun K "_law_power" "_law_power" s_l_power a.f_l_power a.fd_l_power
  b_l_power : Binds K a.fd_l_power ["_law_letters_here", "_law_long"] []
  g_whole : mg "_law_whole" = some (.ref a.f_whole)
  F_whole : Fun K "_law_whole" "_law_whole" s_whole a.f_whole a.fd_whole
  b_whole : Binds K a.fd_whole ["_law_letters_here", "_law_mark_here", "_law_long"] []
  g_span : mg "_law_span" = some (.ref a.f_span)
  F_span : Fun K "_law_span" "_law_span" s_span a.f_span a.fd_span
  b_span : Binds K a.fd_span ["_law_letters_here", "_law_low", "_law_high", "_law_long"] []
  g_mark : mg "_law_mark" = some (.ref a.f_mark)
  F_mark : Fun K "_law_mark" "_law_mark" s_mark a.f_mark a.fd_mark
  b_mark : Binds K a.fd_mark ["_law_script", "_law_base", "_law_letters_here"] []
  g_refused : mg "_law_refused" = some (.ref a.f_refused)
  F_refused : Fun K "_law_refused" "_law_refused" s_refused a.f_refused a.fd_refused
  b_refused : Binds K a.fd_refused ["_law_letters_here", "_law_low", "_law_high"] []
  g_pair : mg "_law_pair" = some (.ref a.f_pair)
  F_pair : Fun K "_law_pair" "_law_pair" s_pair a.f_pair a.fd_pair
  b_pair : Binds K a.fd_pair ["_law_script", "_law_letters_here"] []
  g_stems : mg "_law_stems" = some (.ref a.f_stems)
  F_stems : Fun K "_law_stems" "_law_stems" s_stems a.f_stems a.fd_stems
  b_stems : Binds K a.fd_stems ["_law_letters_here", "_law_low", "_law_high", "_law_long"] []
  g_law : mg "law" = some (.ref a.f_law)
  F_law : Fun K "law" "law" s_law a.f_law a.fd_law
  b_law : Binds K a.fd_law ["_law_script"] []
end K41
namespace K41
open PySem PySem.Spec PyProof.Rows L2 MM
set_option linter.all false
set_option maxRecDepth 100000
set_option maxHeartbeats 4000000
def spLaw (K : PySem.W.Frag) : Sp := fun vs H Q _ => ∃ (a : Addr) (ns : List Int), vs = [.ref a] ∧ SqL K H a (ns.map V.int) ∧ ns.length ≤ 63 ∧ ∀ H', Q (.bl true) H'
def LeOk (lo hi : Option (List Nat)) : Prop := ∀ l h, lo = some l → hi = some h → l < h ∨ l = h
def spRefused : Sp := fun vs H Q _ => ∃ (L : Nat) (lo hi : Option (List Nat)), vs = [.int L, oV lo, oV hi] ∧ 2 ≤ L ∧ L ≤ 26 ∧ MarksOk L lo hi ∧ ¬ OkLH lo hi ∧ ∀ H', Same H H' → Q (.bl true) H'
def spPair (K : PySem.W.Frag) : Sp := fun vs H Q _ => ∃ (a : Addr) (ns : List Int) (L : Nat), vs = [.ref a, .int L] ∧ SqL K H a (ns.map V.int) ∧ ns.length ≤ 63 ∧ 2 ≤ L ∧ L ≤ 26 ∧ ∀ H' p lo hi, Same H H' → H' p = none → MarksOk L lo hi → LeOk lo hi → Q (.ref p) (upd H' p (.tup [oV lo, oV hi]))
def spStems : Sp := fun vs H Q _ => ∃ (L : Nat) (lo hi : Option (List Nat)) (n : Nat), vs = [.int L, oV lo, oV hi, .int n] ∧ 2 ≤ L ∧ L ≤ 26 ∧ MarksOk L lo hi ∧ 1 ≤ n ∧ n ≤ 2000 ∧ ∀ H' p z, Same H H' → H' p = none → StemsZ L lo hi n z → Q (.ref p) (upd H' p (.tup [.int (loN L lo n : Nat), .int z]))
theorem sc_p21 : FnScope ["letters", "long", "product", "step"] ["letters", "long"] (defScope s_p21) := ⟨rfl, rfl, rfl, by decide +kernel, rfl, by decide +kernel, by decide +kernel⟩
def rd_p21 (K : PySem.W.Frag) (a : Ad) : TS :=
    tSeq (tAsg (tC (.int 1)) (gName 2))
      (tSeq (tFor (iRng1 (tCons (tVar 1) tNil)) (gName 3) (tAsg (tOp rMulI (tVar 2) (tVar 0)) (gName 2)))
      (tRet (tVar 2)))
theorem pr_p21 {P : Program} {w : World} {K : PySem.W.Frag} {mg : Str → Option Value} {base : Heap} {a : Ad} (T : Tx K mg a) {f : Addr} {cdv : Value} {A : Around} {outer : List Env} {s : Shared} {H : Hp} {E : XK} (hr : Room 0 (A.deeper (envOfC "power" (defScope s_p21) s.heap.objs.size f cdv))) :
    QSs (cxOf CX0 P w K mg base ["letters", "long", "product", "step"] "power" (defScope s_p21) f cdv A outer s H E).nox (defBody s_p21) (rd_p21 K a) := by
  exact kss_cons (ks_set (i := 2) sc_p21.nd ke_int)
      (kss_cons (ks_for (ki_range1 T.n_range (ka_cons (kv 1) ka_nil)) (kg_name (i := 3) sc_p21.nd) (kss_one (ks_set (i := 2) sc_p21.nd (ke_op op_mulB (kv 2) (kv 0)))))
      (kss_one (ks_ret (kv 2))))
theorem sc_p12 : FnScope ["mark", "place"] ["mark", "place"] (defScope s_p12) := ⟨rfl, rfl, rfl, by decide +kernel, rfl, by decide +kernel, by decide +kernel⟩
def rd_p12 (K : PySem.W.Frag) (a : Ad) : TS :=
    tSeq (tIfS (tOr (tB (tIsN (tVar 0))) (tTest (tOp rGeI (tVar 1) (tCB rLenS (tCons (tVar 0) tNil))))) (tRet (tC (.int 0))) (tNext))
      (tRet (tBM K "str" rIndex (tC (.str (txt ABC))) (tCons (tOp rIxStr (tVar 0) (tVar 1)) tNil)))
theorem pr_p12 {P : Program} {w : World} {K : PySem.W.Frag} {mg : Str → Option Value} {base : Heap} {a : Ad} (T : Tx K mg a) {f : Addr} {cdv : Value} {A : Around} {outer : List Env} {s : Shared} {H : Hp} {E : XK} (hr : Room 0 (A.deeper (envOfC "figure_at" (defScope s_p12) s.heap.objs.size f cdv))) :
    QSs (cxOf CX0 P w K mg base ["mark", "place"] "figure_at" (defScope s_p12) f cdv A outer s H E).nox (defBody s_p12) (rd_p12 K a) := by
  exact kss_cons (ks_if (kt_w (kw_or (kt_isN (kv 0)) (kw_or1 (kt_cmp op_ge (kv 1) (ke_callB call_lenS T.n_len PyProof.Rows.Boot.«len» (ka_cons (kv 0) ka_nil)))))) (kss_one (ks_ret ke_int)) (kss_nil))
      (kss_one (ks_ret (ke_bm PySem.F.plainAttrs_str PySem.F.slot_str_index PySem.F.type_str_index mt_index (ke_gstr T.c_SMALL small_eq) (ka_cons (ke_ix ix_strL (kv 0) (kv 1)) ka_nil))))
theorem sc_p23 : FnScope ["letters", "mark", "long", "whole", "place"] ["letters", "mark", "long"] (defScope s_p23) := ⟨rfl, rfl, rfl, by decide +kernel, rfl, by decide +kernel, by decide +kernel⟩
def rd_p23 (K : PySem.W.Frag) (a : Ad) : TS :=
    tSeq (tAsg (tC (.int 0)) (gName 3))
      (tSeq (tFor (iRng1 (tCons (tVar 2) tNil)) (gName 4) (tAsg (tOp rAddI (tOp rMulI (tVar 3) (tVar 0)) (tCall spFig [] E0 (tCons (tVar 1) (tCons (tVar 4) tNil)))) (gName 3)))
      (tRet (tVar 3)))
theorem pr_p23 {P : Program} {w : World} {K : PySem.W.Frag} {mg : Str → Option Value} {base : Heap} {a : Ad} (T : Tx K mg a) (G_p12 : FnOk P w K mg base CX0 1 a.f_p12 a.fd_p12 ["mark", "place"] spFig) {f : Addr} {cdv : Value} {A : Around} {outer : List Env} {s : Shared} {H : Hp} {E : XK} (hr : Room 1 (A.deeper (envOfC "whole_of" (defScope s_p23) s.heap.objs.size f cdv))) :
    QSs (cxOf CX0 P w K mg base ["letters", "mark", "long", "whole", "place"] "whole_of" (defScope s_p23) f cdv A outer s H E).nox (defBody s_p23) (rd_p23 K a) := by
  exact kss_cons (ks_set (i := 3) sc_p23.nd ke_int)
      (kss_cons (ks_for (ki_range1 T.n_range (ka_cons (kv 2) ka_nil)) (kg_name (i := 4) sc_p23.nd) (kss_one (ks_set (i := 3) sc_p23.nd (ke_op op_add (ke_op op_mulB (kv 3) (kv 0)) (ke_call G_p12 (by exact hr.mono (by decide)) T.g_p12 T.F_p12.kp T.b_p12 pass0 (ka_cons (kv 1) (ka_cons (kv 4) ka_nil)))))))
      (kss_one (ks_ret (kv 3))))
theorem sc_p16 : FnScope ["letters", "number", "long", "text", "rest", "step"] ["letters", "number", "long"] (defScope s_p16) := ⟨rfl, rfl, rfl, by decide +kernel, rfl, by decide +kernel, by decide +kernel⟩
def rd_p16 (K : PySem.W.Frag) (a : Ad) : TS :=
    tSeq (tAsg (tC (.str (txt []))) (gName 3))
      (tSeq (tAsg (tVar 1) (gName 4))
      (tSeq (tFor (iRng1 (tCons (tVar 2) tNil)) (gName 5) (tSeq (tAsg (tOp rAddS (tOp rIxStr (tC (.str (txt ABC))) (tOp rModI (tVar 4) (tVar 0))) (tVar 3)) (gName 3))
      (tAsg (tOp rDivI (tVar 4) (tVar 0)) (gName 4))))
      (tRet (tBM K "str" rRstrip (tVar 3) (tCons (tC (.str (txt [97]))) tNil)))))
theorem pr_p16 {P : Program} {w : World} {K : PySem.W.Frag} {mg : Str → Option Value} {base : Heap} {a : Ad} (T : Tx K mg a) {f : Addr} {cdv : Value} {A : Around} {outer : List Env} {s : Shared} {H : Hp} {E : XK} (hr : Room 0 (A.deeper (envOfC "mark_of" (defScope s_p16) s.heap.objs.size f cdv))) :
    QSs (cxOf CX0 P w K mg base ["letters", "number", "long", "text", "rest", "step"] "mark_of" (defScope s_p16) f cdv A outer s H E).nox (defBody s_p16) (rd_p16 K a) := by
  exact kss_cons (ks_set (i := 3) sc_p16.nd (ke_txt (by kernel_rfl)))
      (kss_cons (ks_set (i := 4) sc_p16.nd (kv 1))
      (kss_cons (ks_for (ki_range1 T.n_range (ka_cons (kv 2) ka_nil)) (kg_name (i := 5) sc_p16.nd) (kss_cons (ks_set (i := 3) sc_p16.nd (ke_op op_addS (ke_ix ix_strL (ke_gstr T.c_SMALL small_eq) (ke_op op_mod (kv 4) (kv 0))) (kv 3)))
      (kss_one (ks_set (i := 4) sc_p16.nd (ke_op op_fdiv (kv 4) (kv 0))))))
      (kss_one (ks_ret (ke_bm PySem.F.plainAttrs_str PySem.F.slot_str_rstrip PySem.F.type_str_rstrip mt_rstrip (kv 3) (ka_cons (ke_txt (by kernel_rfl)) ka_nil))))))
theorem sc_p11 : FnScope ["letters", "hands", "hand"] ["letters", "hands", "hand"] (defScope s_p11) := ⟨rfl, rfl, rfl, by decide +kernel, rfl, by decide +kernel, by decide +kernel⟩
def rd_p11 (K : PySem.W.Frag) (a : Ad) : TS :=
    tRet (tBM K "str" (rJoin K) (tC (.str (txt []))) (tCons (tComp (iRng2 (tCons (tC (.int 1)) (tCons (tVar 0) tNil))) [2, 1] (tTest (tOp rEq (tOp rModI (tOp rSubI (tVar 0) (tC (.int 1))) (tVar 2)) (tVar 1))) (tOp rIxStr (tC (.str (txt ABC))) (tVar 0))) tNil))
theorem pr_p11 {P : Program} {w : World} {K : PySem.W.Frag} {mg : Str → Option Value} {base : Heap} {a : Ad} (T : Tx K mg a) {f : Addr} {cdv : Value} {A : Around} {outer : List Env} {s : Shared} {H : Hp} {E : XK} (hr : Room 0 (A.deeper (envOfC "ends_of" (defScope s_p11) s.heap.objs.size f cdv))) :
    QSs (cxOf CX0 P w K mg base ["letters", "hands", "hand"] "ends_of" (defScope s_p11) f cdv A outer s H E).nox (defBody s_p11) (rd_p11 K a) := by
  exact kss_one (ks_ret (ke_bm PySem.F.plainAttrs_str PySem.F.slot_str_join PySem.F.type_str_join mt_join (ke_txt (by kernel_rfl)) (ka_cons (ke_comp [("hand", 2), ("hands", 1)] (ki_range2 T.n_range (ka_cons ke_int (ka_cons (kv 0) ka_nil))) (fun _ _ _ _ _ => ⟨kts_one (kt_cmp op_eq (ke_op op_mod (ke_op op_sub (kv 0) ke_int) (kvc 2)) (kvc 1)), ke_ix ix_strL (ke_gstr T.c_SMALL small_eq) (kv 0)⟩)) ka_nil)))
theorem sc_p9 : FnScope ["low", "high"] ["low", "high"] (defScope s_p9) := ⟨rfl, rfl, rfl, by decide +kernel, rfl, by decide +kernel, by decide +kernel⟩
def rd_p9 (K : PySem.W.Frag) (a : Ad) (E : XK) : TS :=
    tIfS (tAnd (tB (tNotN (tVar 0))) (tAnd (tB (tNotN (tVar 1))) (tTest (tOp rGeS (tVar 0) (tVar 1))))) (tRaise (.ref a.c_NoRoom) E (tCons (tC (.str (txt [108, 111, 119, 32, 100, 111, 101, 115, 32, 110, 111, 116, 32, 99, 111, 109, 101, 32, 97, 104, 101, 97, 100, 32, 111, 102, 32, 104, 105, 103, 104]))) tNil)) (tNext)
theorem pr_p9 {P : Program} {w : World} {K : PySem.W.Frag} {mg : Str → Option Value} {base : Heap} {a : Ad} (T : Tx K mg a) {f : Addr} {cdv : Value} {A : Around} {outer : List Env} {s : Shared} {H : Hp} {E : XK} (hr : Room 0 (A.deeper (envOfC "ask_room" (defScope s_p9) s.heap.objs.size f cdv))) :
    QSs (cxOf (CX1 P w) P w K mg base ["low", "high"] "ask_room" (defScope s_p9) f cdv A outer s H E) (defBody s_p9) (rd_p9 K a E) := by
  exact kss_one (ks_if (kt_w (kw_and (kt_notN (kv 0)) (kw_and (kt_notN (kv 1)) (kw_and1 (kt_cmp op_geS (kv 0) (kv 1)))))) (kss_one (ks_raise PySem.F.excBase_ValueError T.x_NoRoom T.m_NoRoom (ka_cons (ke_txt (by kernel_rfl)) ka_nil) (fun _ _ _ _ _ _ _ I m q => made_def I m q))) (kss_nil))
theorem sc_p13 : FnScope ["letters", "high", "long"] ["letters", "high", "long"] (defScope s_p13) := ⟨rfl, rfl, rfl, by decide +kernel, rfl, by decide +kernel, by decide +kernel⟩
def rd_p13 (K : PySem.W.Frag) (a : Ad) : TS :=
    tSeq (tIfS (tB (tIsN (tVar 1))) (tRet (tCall spPower [] E0 (tCons (tVar 0) (tCons (tVar 2) tNil)))) (tNext))
      (tRet (tCall spWhole [] E0 (tCons (tVar 0) (tCons (tVar 1) (tCons (tVar 2) tNil)))))
theorem pr_p13 {P : Program} {w : World} {K : PySem.W.Frag} {mg : Str → Option Value} {base : Heap} {a : Ad} (T : Tx K mg a) (G_p21 : FnOk P w K mg base CX0 1 a.f_p21 a.fd_p21 ["letters", "long"] spPower) (G_p23 : FnOk P w K mg base CX0 2 a.f_p23 a.fd_p23 ["letters", "mark", "long"] spWhole) {f : Addr} {cdv : Value} {A : Around} {outer : List Env} {s : Shared} {H : Hp} {E : XK} (hr : Room 2 (A.deeper (envOfC "high_whole_of" (defScope s_p13) s.heap.objs.size f cdv))) :
    QSs (cxOf CX0 P w K mg base ["letters", "high", "long"] "high_whole_of" (defScope s_p13) f cdv A outer s H E).nox (defBody s_p13) (rd_p13 K a) := by
  exact kss_cons (ks_if (kt_isN (kv 1)) (kss_one (ks_ret (ke_call G_p21 (by exact hr.mono (by decide)) T.g_p21 T.F_p21.kp T.b_p21 pass0 (ka_cons (kv 0) (ka_cons (kv 2) ka_nil))))) (kss_nil))
      (kss_one (ks_ret (ke_call G_p23 (by exact hr.mono (by decide)) T.g_p23 T.F_p23.kp T.b_p23 pass0 (ka_cons (kv 0) (ka_cons (kv 1) (ka_cons (kv 2) ka_nil))))))
theorem sc_p19 : FnScope ["letters", "ends", "number", "lesser"] ["letters", "ends", "number"] (defScope s_p19) := ⟨rfl, rfl, rfl, by decide +kernel, rfl, by decide +kernel, by decide +kernel⟩
def rd_p19 (K : PySem.W.Frag) (a : Ad) : TS :=
    tSeq (tCompSet 3 (iStr (tVar 1)) [2, 0] (tTest (tOp rLtS (tVar 0) (tOp rIxStr (tC (.str (txt ABC))) (tOp rModI (tVar 1) (tVar 2))))) (tVar 0))
      (tRet (tOp rAddI (tOp rMulI (tOp rDivI (tVar 2) (tVar 0)) (tCB rLenS (tCons (tVar 1) tNil))) (tCB (rLenL K) (tCons (tVar 3) tNil))))
theorem pr_p19 {P : Program} {w : World} {K : PySem.W.Frag} {mg : Str → Option Value} {base : Heap} {a : Ad} (T : Tx K mg a) {f : Addr} {cdv : Value} {A : Around} {outer : List Env} {s : Shared} {H : Hp} {E : XK} (hr : Room 0 (A.deeper (envOfC "owned_below" (defScope s_p19) s.heap.objs.size f cdv))) :
    QSs (cxOf CX0 P w K mg base ["letters", "ends", "number", "lesser"] "owned_below" (defScope s_p19) f cdv A outer s H E).nox (defBody s_p19) (rd_p19 K a) := by
  exact kss_cons (ks_comp (i := 3) [("number", 2), ("letters", 0)] sc_p19.nd (ki_str (kv 1)) (fun _ _ _ _ _ => ⟨kts_one (kt_cmp op_ltS (kv 0) (ke_ix ix_strL (ke_gstr T.c_SMALL small_eq) (ke_op op_mod (kvc 1) (kvc 2)))), kv 0⟩))
      (kss_one (ks_ret (ke_op op_add (ke_op op_mulB (ke_op op_fdiv (kvc 2) (kvc 0)) (ke_callB call_lenS T.n_len PyProof.Rows.Boot.«len» (ka_cons (kv 1) ka_nil))) (ke_callB call_len_seq T.n_len PyProof.Rows.Boot.«len» (ka_cons (kv 3) ka_nil)))))
theorem sc_p20 : FnScope ["letters", "ends", "low_whole"] ["letters", "ends", "low_whole"] (defScope s_p20) := ⟨rfl, rfl, rfl, by decide +kernel, rfl, by decide +kernel, by decide +kernel⟩
def rd_p20 (K : PySem.W.Frag) (a : Ad) : TS :=
    tRet (tCall spBelow [] E0 (tCons (tVar 0) (tCons (tVar 1) (tCons (tOp rAddI (tVar 2) (tC (.int 1))) tNil))))
theorem pr_p20 {P : Program} {w : World} {K : PySem.W.Frag} {mg : Str → Option Value} {base : Heap} {a : Ad} (T : Tx K mg a) (G_p19 : FnOk P w K mg base CX0 1 a.f_p19 a.fd_p19 ["letters", "ends", "number"] spBelow) {f : Addr} {cdv : Value} {A : Around} {outer : List Env} {s : Shared} {H : Hp} {E : XK} (hr : Room 1 (A.deeper (envOfC "owned_up_to_low" (defScope s_p20) s.heap.objs.size f cdv))) :
    QSs (cxOf CX0 P w K mg base ["letters", "ends", "low_whole"] "owned_up_to_low" (defScope s_p20) f cdv A outer s H E).nox (defBody s_p20) (rd_p20 K a) := by
  exact kss_one (ks_ret (ke_call G_p19 (by exact hr.mono (by decide)) T.g_p19 T.F_p19.kp T.b_p19 pass0 (ka_cons (kv 0) (ka_cons (kv 1) (ka_cons (ke_op op_add (kv 2) ke_int) ka_nil)))))
theorem sc_p18 : FnScope ["letters", "ends", "high", "high_whole", "long", "beginnings"] ["letters", "ends", "high", "high_whole", "long", "beginnings"] (defScope s_p18) := ⟨rfl, rfl, rfl, by decide +kernel, rfl, by decide +kernel, by decide +kernel⟩
def rd_p18 (K : PySem.W.Frag) (a : Ad) : TS :=
    tSeq (tIfS (tAnd (tB (tVar 5)) (tAnd (tB (tNotN (tVar 2))) (tTest (tOp rLtI (tVar 4) (tCB rLenS (tCons (tVar 2) tNil)))))) (tRet (tCall spBelow [] E0 (tCons (tVar 0) (tCons (tVar 1) (tCons (tOp rAddI (tVar 3) (tC (.int 1))) tNil))))) (tNext))
      (tRet (tCall spBelow [] E0 (tCons (tVar 0) (tCons (tVar 1) (tCons (tVar 3) tNil)))))
theorem pr_p18 {P : Program} {w : World} {K : PySem.W.Frag} {mg : Str → Option Value} {base : Heap} {a : Ad} (T : Tx K mg a) (G_p19 : FnOk P w K mg base CX0 1 a.f_p19 a.fd_p19 ["letters", "ends", "number"] spBelow) {f : Addr} {cdv : Value} {A : Around} {outer : List Env} {s : Shared} {H : Hp} {E : XK} (hr : Room 1 (A.deeper (envOfC "owned_ahead_of_high" (defScope s_p18) s.heap.objs.size f cdv))) :
    QSs (cxOf CX0 P w K mg base ["letters", "ends", "high", "high_whole", "long", "beginnings"] "owned_ahead_of_high" (defScope s_p18) f cdv A outer s H E).nox (defBody s_p18) (rd_p18 K a) := by
  exact kss_cons (ks_if (kt_w (kw_and (kt_val (kv 5)) (kw_and (kt_notN (kv 2)) (kw_and1 (kt_cmp op_lt (kv 4) (ke_callB call_lenS T.n_len PyProof.Rows.Boot.«len» (ka_cons (kv 2) ka_nil))))))) (kss_one (ks_ret (ke_call G_p19 (by exact hr.mono (by decide)) T.g_p19 T.F_p19.kp T.b_p19 pass0 (ka_cons (kv 0) (ka_cons (kv 1) (ka_cons (ke_op op_add (kv 3) ke_int) ka_nil)))))) (kss_nil))
      (kss_one (ks_ret (ke_call G_p19 (by exact hr.mono (by decide)) T.g_p19 T.F_p19.kp T.b_p19 pass0 (ka_cons (kv 0) (ka_cons (kv 1) (ka_cons (kv 3) ka_nil))))))
theorem sc_p10 : FnScope ["letters", "ends", "low", "high", "long", "beginnings", "low_whole", "high_whole", "ahead"] ["letters", "ends", "low", "high", "long", "beginnings"] (defScope s_p10) := ⟨rfl, rfl, rfl, by decide +kernel, rfl, by decide +kernel, by decide +kernel⟩
def rd_p10 (K : PySem.W.Frag) (a : Ad) : TS :=
    tSeq (tAsg (tCall spWhole [] E0 (tCons (tVar 0) (tCons (tVar 2) (tCons (tVar 4) tNil)))) (gName 6))
      (tSeq (tAsg (tCall spHigh [] E0 (tCons (tVar 0) (tCons (tVar 3) (tCons (tVar 4) tNil)))) (gName 7))
      (tSeq (tAsg (tCall spAhead [] E0 (tCons (tVar 0) (tCons (tVar 1) (tCons (tVar 3) (tCons (tVar 7) (tCons (tVar 4) (tCons (tVar 5) tNil))))))) (gName 8))
      (tRet (tOp rSubI (tVar 8) (tCall spUpLow [] E0 (tCons (tVar 0) (tCons (tVar 1) (tCons (tVar 6) tNil))))))))
theorem pr_p10 {P : Program} {w : World} {K : PySem.W.Frag} {mg : Str → Option Value} {base : Heap} {a : Ad} (T : Tx K mg a) (G_p23 : FnOk P w K mg base CX0 2 a.f_p23 a.fd_p23 ["letters", "mark", "long"] spWhole) (G_p13 : FnOk P w K mg base CX0 3 a.f_p13 a.fd_p13 ["letters", "high", "long"] spHigh) (G_p18 : FnOk P w K mg base CX0 2 a.f_p18 a.fd_p18 ["letters", "ends", "high", "high_whole", "long", "beginnings"] spAhead) (G_p20 : FnOk P w K mg base CX0 2 a.f_p20 a.fd_p20 ["letters", "ends", "low_whole"] spUpLow) {f : Addr} {cdv : Value} {A : Around} {outer : List Env} {s : Shared} {H : Hp} {E : XK} (hr : Room 3 (A.deeper (envOfC "counted_at" (defScope s_p10) s.heap.objs.size f cdv))) :
    QSs (cxOf CX0 P w K mg base ["letters", "ends", "low", "high", "long", "beginnings", "low_whole", "high_whole", "ahead"] "counted_at" (defScope s_p10) f cdv A outer s H E).nox (defBody s_p10) (rd_p10 K a) := by
  exact kss_cons (ks_set (i := 6) sc_p10.nd (ke_call G_p23 (by exact hr.mono (by decide)) T.g_p23 T.F_p23.kp T.b_p23 pass0 (ka_cons (kv 0) (ka_cons (kv 2) (ka_cons (kv 4) ka_nil)))))
      (kss_cons (ks_set (i := 7) sc_p10.nd (ke_call G_p13 (by exact hr.mono (by decide)) T.g_p13 T.F_p13.kp T.b_p13 pass0 (ka_cons (kv 0) (ka_cons (kv 3) (ka_cons (kv 4) ka_nil)))))
      (kss_cons (ks_set (i := 8) sc_p10.nd (ke_call G_p18 (by exact hr.mono (by decide)) T.g_p18 T.F_p18.kp T.b_p18 pass0 (ka_cons (kv 0) (ka_cons (kv 1) (ka_cons (kv 3) (ka_cons (kv 7) (ka_cons (kv 4) (ka_cons (kv 5) ka_nil))))))))
      (kss_one (ks_ret (ke_op op_sub (kv 8) (ke_call G_p20 (by exact hr.mono (by decide)) T.g_p20 T.F_p20.kp T.b_p20 pass0 (ka_cons (kv 0) (ka_cons (kv 1) (ka_cons (kv 6) ka_nil)))))))))
theorem sc_p17 : FnScope ["letters", "hands", "hand", "low", "high", "long", "number", "ends", "low_whole", "place", "last"] ["letters", "hands", "hand", "low", "high", "long", "number"] (defScope s_p17) := ⟨rfl, rfl, rfl, by decide +kernel, rfl, by decide +kernel, by decide +kernel⟩
def rd_p17 (K : PySem.W.Frag) (a : Ad) (E : XK) : TS :=
    tSeq (tDrop (tCall (spAskRoom a.c_NoRoom) [] E (tCons (tVar 3) (tCons (tVar 4) tNil))))
      (tSeq (tAsg (tCall spEnds [] E0 (tCons (tVar 0) (tCons (tVar 1) (tCons (tVar 2) tNil)))) (gName 7))
      (tSeq (tAsg (tCall spWhole [] E0 (tCons (tVar 0) (tCons (tVar 3) (tCons (tVar 5) tNil)))) (gName 8))
      (tSeq (tAsg (tOp rAddI (tCall spUpLow [] E0 (tCons (tVar 0) (tCons (tVar 7) (tCons (tVar 8) tNil)))) (tVar 6)) (gName 9))
      (tSeq (tAsg (tBM K "str" rIndex (tC (.str (txt ABC))) (tCons (tOp rIxStr (tVar 7) (tOp rModI (tVar 9) (tCB rLenS (tCons (tVar 7) tNil)))) tNil)) (gName 10))
      (tRet (tCall spMarkOf [] E0 (tCons (tVar 0) (tCons (tOp rAddI (tOp rMulI (tOp rDivI (tVar 9) (tCB rLenS (tCons (tVar 7) tNil))) (tVar 0)) (tVar 10)) (tCons (tVar 5) tNil)))))))))
theorem pr_p17 {P : Program} {w : World} {K : PySem.W.Frag} {mg : Str → Option Value} {base : Heap} {a : Ad} (T : Tx K mg a) (G_p9 : FnOk P w K mg base (CX1 P w) 1 a.f_p9 a.fd_p9 ["low", "high"] (spAskRoom a.c_NoRoom)) (G_p11 : FnOk P w K mg base CX0 1 a.f_p11 a.fd_p11 ["letters", "hands", "hand"] spEnds) (G_p23 : FnOk P w K mg base CX0 2 a.f_p23 a.fd_p23 ["letters", "mark", "long"] spWhole) (G_p20 : FnOk P w K mg base CX0 2 a.f_p20 a.fd_p20 ["letters", "ends", "low_whole"] spUpLow) (G_p16 : FnOk P w K mg base CX0 1 a.f_p16 a.fd_p16 ["letters", "number", "long"] spMarkOf) {f : Addr} {cdv : Value} {A : Around} {outer : List Env} {s : Shared} {H : Hp} {E : XK} (hr : Room 2 (A.deeper (envOfC "nth_mark" (defScope s_p17) s.heap.objs.size f cdv))) :
    QSs (cxOf (CX1 P w) P w K mg base ["letters", "hands", "hand", "low", "high", "long", "number", "ends", "low_whole", "place", "last"] "nth_mark" (defScope s_p17) f cdv A outer s H E) (defBody s_p17) (rd_p17 K a E) := by
  exact kss_cons (ks_expr (ke_call G_p9 (by exact hr.mono (by decide)) T.g_p9 T.F_p9.kp T.b_p9 pass_def (ka_cons (kv 3) (ka_cons (kv 4) ka_nil))))
      (kss_cons (ks_nox (ks_set (i := 7) sc_p17.nd (ke_call G_p11 (by exact hr.mono (by decide)) T.g_p11 T.F_p11.kp T.b_p11 pass0 (ka_cons (kv 0) (ka_cons (kv 1) (ka_cons (kv 2) ka_nil))))))
      (kss_cons (ks_nox (ks_set (i := 8) sc_p17.nd (ke_call G_p23 (by exact hr.mono (by decide)) T.g_p23 T.F_p23.kp T.b_p23 pass0 (ka_cons (kv 0) (ka_cons (kv 3) (ka_cons (kv 5) ka_nil))))))
      (kss_cons (ks_nox (ks_set (i := 9) sc_p17.nd (ke_op op_add (ke_call G_p20 (by exact hr.mono (by decide)) T.g_p20 T.F_p20.kp T.b_p20 pass0 (ka_cons (kv 0) (ka_cons (kv 7) (ka_cons (kv 8) ka_nil)))) (kv 6))))
      (kss_cons (ks_nox (ks_set (i := 10) sc_p17.nd (ke_bm PySem.F.plainAttrs_str PySem.F.slot_str_index PySem.F.type_str_index mt_index (ke_gstr T.c_SMALL small_eq) (ka_cons (ke_ix ix_strL (kv 7) (ke_op op_mod (kv 9) (ke_callB call_lenS T.n_len PyProof.Rows.Boot.«len» (ka_cons (kv 7) ka_nil)))) ka_nil))))
      (kss_one (ks_nox (ks_ret (ke_call G_p16 (by exact hr.mono (by decide)) T.g_p16 T.F_p16.kp T.b_p16 pass0 (ka_cons (kv 0) (ka_cons (ke_op op_add (ke_op op_mulB (ke_op op_fdiv (kv 9) (ke_callB call_lenS T.n_len PyProof.Rows.Boot.«len» (ka_cons (kv 7) ka_nil))) (kv 0)) (kv 10)) (ka_cons (kv 5) ka_nil)))))))))))
theorem sc_p15 : FnScope ["letters", "ends", "low", "high", "many", "beginnings", "long", "room", "low_whole", "high_whole", "ahead"] ["letters", "ends", "low", "high", "many", "beginnings"] (defScope s_p15) := ⟨rfl, rfl, rfl, by decide +kernel, rfl, by decide +kernel, by decide +kernel⟩
def rd_p15 (K : PySem.W.Frag) (a : Ad) : TS :=
    tSeq (tAsg (tC (.int 0)) (gName 6))
      (tSeq (tAsg (tC (.int 0)) (gName 7))
      (tSeq (tAsg (tC (.int 0)) (gName 8))
      (tSeq (tAsg (tCall spHigh [] E0 (tCons (tVar 0) (tCons (tVar 3) (tCons (tC (.int 0)) tNil)))) (gName 9))
      (tSeq (tWhile (tTest (tOp rLtI (tVar 7) (tVar 4))) (tSeq (tAsg (tOp rAddI (tOp rMulI (tVar 8) (tVar 0)) (tCall spFig [] E0 (tCons (tVar 2) (tCons (tVar 6) tNil)))) (gName 8))
      (tSeq (tAsg (tOp rAddI (tOp rMulI (tVar 9) (tVar 0)) (tCall spFig [] E0 (tCons (tVar 3) (tCons (tVar 6) tNil)))) (gName 9))
      (tSeq (tAsg (tOp rAddI (tVar 6) (tC (.int 1))) (gName 6))
      (tSeq (tAsg (tCall spAhead [] E0 (tCons (tVar 0) (tCons (tVar 1) (tCons (tVar 3) (tCons (tVar 9) (tCons (tVar 6) (tCons (tVar 5) tNil))))))) (gName 10))
      (tAsg (tOp rSubI (tVar 10) (tCall spUpLow [] E0 (tCons (tVar 0) (tCons (tVar 1) (tCons (tVar 8) tNil))))) (gName 7)))))))
      (tRet (tVar 6))))))
theorem pr_p15 {P : Program} {w : World} {K : PySem.W.Frag} {mg : Str → Option Value} {base : Heap} {a : Ad} (T : Tx K mg a) (G_p13 : FnOk P w K mg base CX0 3 a.f_p13 a.fd_p13 ["letters", "high", "long"] spHigh) (G_p12 : FnOk P w K mg base CX0 1 a.f_p12 a.fd_p12 ["mark", "place"] spFig) (G_p18 : FnOk P w K mg base CX0 2 a.f_p18 a.fd_p18 ["letters", "ends", "high", "high_whole", "long", "beginnings"] spAhead) (G_p20 : FnOk P w K mg base CX0 2 a.f_p20 a.fd_p20 ["letters", "ends", "low_whole"] spUpLow) {f : Addr} {cdv : Value} {A : Around} {outer : List Env} {s : Shared} {H : Hp} {E : XK} (hr : Room 3 (A.deeper (envOfC "least_counted" (defScope s_p15) s.heap.objs.size f cdv))) :
    QSs (cxOf CX0 P w K mg base ["letters", "ends", "low", "high", "many", "beginnings", "long", "room", "low_whole", "high_whole", "ahead"] "least_counted" (defScope s_p15) f cdv A outer s H E).nox (defBody s_p15) (rd_p15 K a) := by
  exact kss_cons (ks_set (i := 6) sc_p15.nd ke_int)
      (kss_cons (ks_set (i := 7) sc_p15.nd ke_int)
      (kss_cons (ks_set (i := 8) sc_p15.nd ke_int)
      (kss_cons (ks_set (i := 9) sc_p15.nd (ke_call G_p13 (by exact hr.mono (by decide)) T.g_p13 T.F_p13.kp T.b_p13 pass0 (ka_cons (kv 0) (ka_cons (kv 3) (ka_cons ke_int ka_nil)))))
      (kss_cons (ks_while (kt_cmp op_lt (kv 7) (kv 4)) (kss_cons (ks_set (i := 8) sc_p15.nd (ke_op op_add (ke_op op_mulB (kv 8) (kv 0)) (ke_call G_p12 (by exact hr.mono (by decide)) T.g_p12 T.F_p12.kp T.b_p12 pass0 (ka_cons (kv 2) (ka_cons (kv 6) ka_nil)))))
      (kss_cons (ks_set (i := 9) sc_p15.nd (ke_op op_add (ke_op op_mulB (kv 9) (kv 0)) (ke_call G_p12 (by exact hr.mono (by decide)) T.g_p12 T.F_p12.kp T.b_p12 pass0 (ka_cons (kv 3) (ka_cons (kv 6) ka_nil)))))
      (kss_cons (ks_set (i := 6) sc_p15.nd (ke_op op_add (kv 6) ke_int))
      (kss_cons (ks_set (i := 10) sc_p15.nd (ke_call G_p18 (by exact hr.mono (by decide)) T.g_p18 T.F_p18.kp T.b_p18 pass0 (ka_cons (kv 0) (ka_cons (kv 1) (ka_cons (kv 3) (ka_cons (kv 9) (ka_cons (kv 6) (ka_cons (kv 5) ka_nil))))))))
      (kss_one (ks_set (i := 7) sc_p15.nd (ke_op op_sub (kv 10) (ke_call G_p20 (by exact hr.mono (by decide)) T.g_p20 T.F_p20.kp T.b_p20 pass0 (ka_cons (kv 0) (ka_cons (kv 1) (ka_cons (kv 8) ka_nil))))))))))))
      (kss_one (ks_ret (kv 6)))))))
theorem sc_p22 : FnScope ["letters", "low", "high", "ends", "long", "many"] ["letters", "low", "high"] (defScope s_p22) := ⟨rfl, rfl, rfl, by decide +kernel, rfl, by decide +kernel, by decide +kernel⟩
def rd_p22 (K : PySem.W.Frag) (a : Ad) (E : XK) : TS :=
    tSeq (tDrop (tCall (spAskRoom a.c_NoRoom) [] E (tCons (tVar 1) (tCons (tVar 2) tNil))))
      (tSeq (tAsg (tCall spEnds [] E0 (tCons (tVar 0) (tCons (tC (.int 1)) (tCons (tC (.int 0)) tNil)))) (gName 3))
      (tSeq (tAsg (tCall spLeastC [] E0 (tCons (tVar 0) (tCons (tVar 3) (tCons (tVar 1) (tCons (tVar 2) (tCons (tC (.int 1)) (tCons (tC (.bl false)) tNil))))))) (gName 4))
      (tSeq (tAsg (tCall spCounted [] E0 (tCons (tVar 0) (tCons (tVar 3) (tCons (tVar 1) (tCons (tVar 2) (tCons (tVar 4) (tCons (tC (.bl false)) tNil))))))) (gName 5))
      (tRet (tCall (spNth a.c_NoRoom) [] E (tCons (tVar 0) (tCons (tC (.int 1)) (tCons (tC (.int 0)) (tCons (tVar 1) (tCons (tVar 2) (tCons (tVar 4) (tCons (tOp rDivI (tOp rSubI (tVar 5) (tC (.int 1))) (tC (.int 2))) tNil))))))))))))
theorem pr_p22 {P : Program} {w : World} {K : PySem.W.Frag} {mg : Str → Option Value} {base : Heap} {a : Ad} (T : Tx K mg a) (G_p9 : FnOk P w K mg base (CX1 P w) 1 a.f_p9 a.fd_p9 ["low", "high"] (spAskRoom a.c_NoRoom)) (G_p11 : FnOk P w K mg base CX0 1 a.f_p11 a.fd_p11 ["letters", "hands", "hand"] spEnds) (G_p15 : FnOk P w K mg base CX0 4 a.f_p15 a.fd_p15 ["letters", "ends", "low", "high", "many", "beginnings"] spLeastC) (G_p10 : FnOk P w K mg base CX0 4 a.f_p10 a.fd_p10 ["letters", "ends", "low", "high", "long", "beginnings"] spCounted) (G_p17 : FnOk P w K mg base (CX1 P w) 3 a.f_p17 a.fd_p17 ["letters", "hands", "hand", "low", "high", "long", "number"] (spNth a.c_NoRoom)) {f : Addr} {cdv : Value} {A : Around} {outer : List Env} {s : Shared} {H : Hp} {E : XK} (hr : Room 4 (A.deeper (envOfC "stem_between" (defScope s_p22) s.heap.objs.size f cdv))) :
    QSs (cxOf (CX1 P w) P w K mg base ["letters", "low", "high", "ends", "long", "many"] "stem_between" (defScope s_p22) f cdv A outer s H E) (defBody s_p22) (rd_p22 K a E) := by
  exact kss_cons (ks_expr (ke_call G_p9 (by exact hr.mono (by decide)) T.g_p9 T.F_p9.kp T.b_p9 pass_def (ka_cons (kv 1) (ka_cons (kv 2) ka_nil))))
      (kss_cons (ks_nox (ks_set (i := 3) sc_p22.nd (ke_call G_p11 (by exact hr.mono (by decide)) T.g_p11 T.F_p11.kp T.b_p11 pass0 (ka_cons (kv 0) (ka_cons ke_int (ka_cons ke_int ka_nil))))))
      (kss_cons (ks_nox (ks_set (i := 4) sc_p22.nd (ke_call G_p15 (by exact hr.mono (by decide)) T.g_p15 T.F_p15.kp T.b_p15 pass0 (ka_cons (kv 0) (ka_cons (kv 3) (ka_cons (kv 1) (ka_cons (kv 2) (ka_cons ke_int (ka_cons ke_bl ka_nil)))))))))
      (kss_cons (ks_nox (ks_set (i := 5) sc_p22.nd (ke_call G_p10 (by exact hr.mono (by decide)) T.g_p10 T.F_p10.kp T.b_p10 pass0 (ka_cons (kv 0) (ka_cons (kv 3) (ka_cons (kv 1) (ka_cons (kv 2) (ka_cons (kv 4) (ka_cons ke_bl ka_nil)))))))))
      (kss_one (ks_ret (ke_call G_p17 (by exact hr.mono (by decide)) T.g_p17 T.F_p17.kp T.b_p17 pass_def (ka_cons (kv 0) (ka_cons ke_int (ka_cons ke_int (ka_cons (kv 1) (ka_cons (kv 2) (ka_cons (kv 4) (ka_cons (ke_op op_fdiv (ke_op op_sub (kv 5) ke_int) ke_int) ka_nil)))))))))))))
theorem sc_draw : FnScope ["_law_script", "_law_k", "_law_many", "_law_cell", "_law_j", "_law_seed"] ["_law_script", "_law_k", "_law_many"] (defScope s_draw) := ⟨rfl, rfl, rfl, by decide +kernel, rfl, by decide +kernel, by decide +kernel⟩
def rd_draw (K : PySem.W.Frag) (a : Ad) : TS :=
    tSeq (tAsg (tIf (tTest (tOp rGtI (tCB (rLenL K) (tCons (tVar 0) tNil)) (tC (.int 0)))) (tOp (rIxL K) (tVar 0) (tOp rModI (tVar 1) (tCB (rLenL K) (tCons (tVar 0) tNil)))) (tC (.int 0))) (gName 3))
      (tSeq (tIfS (tAnd (tTest (tOp rGtI (tCB (rLenL K) (tCons (tVar 0) tNil)) (tC (.int 0)))) (tTest (tOp rEq (tOp rModI (tOp rDivI (tOp (rIxL K) (tVar 0) (tC (.int 0))) (tC (.int 7))) (tC (.int 2))) (tC (.int 1))))) (tSeq (tFor (iRng1 (tCons (tOp rModI (tOp rDivI (tVar 1) (tCB (rLenL K) (tCons (tVar 0) tNil))) (tC (.int 60))) tNil)) (gName 4) (tAsg (tOp rDivI (tVar 3) (tC (.int 1000003))) (gName 3)))
      (tRet (tOp rModI (tOp rModI (tVar 3) (tC (.int 1000003))) (tVar 2)))) (tNext))
      (tSeq (tAsg (tOp rAddI (tOp rAddI (tOp rModI (tVar 3) (tC (.int 1000003))) (tOp rMulI (tOp rMulI (tC (.int 31)) (tVar 1)) (tVar 1))) (tC (.int 1))) (gName 5))
      (tRet (tOp rModI (tOp rModI (tOp rMulI (tOp rModI (tOp rMulI (tVar 5) (tC (.int 48271))) (tC (.int 999983))) (tC (.int 7919))) (tC (.int 524287))) (tVar 2)))))
theorem pr_draw {P : Program} {w : World} {K : PySem.W.Frag} {mg : Str → Option Value} {base : Heap} {a : Ad} (T : Tx K mg a) {f : Addr} {cdv : Value} {A : Around} {outer : List Env} {s : Shared} {H : Hp} {E : XK} (hr : Room 0 (A.deeper (envOfC "_law_draw" (defScope s_draw) s.heap.objs.size f cdv))) :
    QSs (cxOf CX0 P w K mg base ["_law_script", "_law_k", "_law_many", "_law_cell", "_law_j", "_law_seed"] "_law_draw" (defScope s_draw) f cdv A outer s H E).nox (defBody s_draw) (rd_draw K a) := by
  exact kss_cons (ks_set (i := 3) sc_draw.nd (ke_ifExp (kt_cmp op_gt (ke_callB call_len_seq T.n_len PyProof.Rows.Boot.«len» (ka_cons (kv 0) ka_nil)) ke_int) (ke_ix ix_list (kv 0) (ke_op op_mod (kv 1) (ke_callB call_len_seq T.n_len PyProof.Rows.Boot.«len» (ka_cons (kv 0) ka_nil)))) ke_int))
      (kss_cons (ks_if (kt_w (kw_and (kt_cmp op_gt (ke_callB call_len_seq T.n_len PyProof.Rows.Boot.«len» (ka_cons (kv 0) ka_nil)) ke_int) (kw_and1 (kt_cmp op_eq (ke_op op_mod (ke_op op_fdiv (ke_ix ix_list (kv 0) ke_int) ke_int) ke_int) ke_int)))) (kss_cons (ks_for (ki_range1 T.n_range (ka_cons (ke_op op_mod (ke_op op_fdiv (kv 1) (ke_callB call_len_seq T.n_len PyProof.Rows.Boot.«len» (ka_cons (kv 0) ka_nil))) ke_int) ka_nil)) (kg_name (i := 4) sc_draw.nd) (kss_one (ks_set (i := 3) sc_draw.nd (ke_op op_fdiv (kv 3) ke_int))))
      (kss_one (ks_ret (ke_op op_mod (ke_op op_mod (kv 3) ke_int) (kv 2))))) (kss_nil))
      (kss_cons (ks_set (i := 5) sc_draw.nd (ke_op op_add (ke_op op_add (ke_op op_mod (kv 3) ke_int) (ke_op op_mulB (ke_op op_mulB ke_int (kv 1)) (kv 1))) ke_int))
      (kss_one (ks_ret (ke_op op_mod (ke_op op_mod (ke_op op_mulB (ke_op op_mod (ke_op op_mulB (kv 5) ke_int) ke_int) ke_int) ke_int) (kv 2))))))
theorem sc_letters : FnScope ["_law_script"] ["_law_script"] (defScope s_letters) := ⟨rfl, rfl, rfl, by decide +kernel, rfl, by decide +kernel, by decide +kernel⟩
def rd_letters (K : PySem.W.Frag) (a : Ad) : TS :=
    tRet (tOp (rIxL K) (tLst (tCons (tC (.int 2)) (tCons (tC (.int 3)) (tCons (tC (.int 4)) (tCons (tC (.int 10)) (tCons (tC (.int 26)) (tCons (tOp rAddI (tC (.int 2)) (tCall (spDraw K) [] E0 (tCons (tVar 0) (tCons (tC (.int 1)) (tCons (tC (.int 25)) tNil))))) tNil))))))) (tCall (spDraw K) [] E0 (tCons (tVar 0) (tCons (tC (.int 0)) (tCons (tC (.int 6)) tNil)))))
theorem pr_letters {P : Program} {w : World} {K : PySem.W.Frag} {mg : Str → Option Value} {base : Heap} {a : Ad} (T : Tx K mg a) (G_draw : FnOk P w K mg base CX0 1 a.f_draw a.fd_draw ["_law_script", "_law_k", "_law_many"] (spDraw K)) {f : Addr} {cdv : Value} {A : Around} {outer : List Env} {s : Shared} {H : Hp} {E : XK} (hr : Room 1 (A.deeper (envOfC "_law_letters" (defScope s_letters) s.heap.objs.size f cdv))) :
    QSs (cxOf CX0 P w K mg base ["_law_script"] "_law_letters" (defScope s_letters) f cdv A outer s H E).nox (defBody s_letters) (rd_letters K a) := by
  exact kss_one (ks_ret (ke_ix ix_list (ke_lst (ka_cons ke_int (ka_cons ke_int (ka_cons ke_int (ka_cons ke_int (ka_cons ke_int (ka_cons (ke_op op_add ke_int (ke_call G_draw (by exact hr.mono (by decide)) T.g_draw T.F_draw.kp T.b_draw pass0 (ka_cons (kv 0) (ka_cons ke_int (ka_cons ke_int ka_nil))))) ka_nil))))))) (ke_call G_draw (by exact hr.mono (by decide)) T.g_draw T.F_draw.kp T.b_draw pass0 (ka_cons (kv 0) (ka_cons ke_int (ka_cons ke_int ka_nil))))))
theorem sc_l_power : FnScope ["_law_letters_here", "_law_long", "_law_power_here", "_law_k"] ["_law_letters_here", "_law_long"] (defScope s_l_power) := ⟨rfl, rfl, rfl, by decide +kernel, rfl, by decide +kernel, by decide +kernel⟩
def rd_l_power (K : PySem.W.Frag) (a : Ad) : TS :=
    tSeq (tAsg (tC (.int 1)) (gName 2))
      (tSeq (tFor (iRng1 (tCons (tVar 1) tNil)) (gName 3) (tAsg (tOp rMulI (tVar 2) (tVar 0)) (gName 2)))
      (tRet (tVar 2)))
theorem pr_l_power {P : Program} {w : World} {K : PySem.W.Frag} {mg : Str → Option Value} {base : Heap} {a : Ad} (T : Tx K mg a) {f : Addr} {cdv : Value} {A : Around} {outer : List Env} {s : Shared} {H : Hp} {E : XK} (hr : Room 0 (A.deeper (envOfC "_law_power" (defScope s_l_power) s.heap.objs.size f cdv))) :
    QSs (cxOf CX0 P w K mg base ["_law_letters_here", "_law_long", "_law_power_here", "_law_k"] "_law_power" (defScope s_l_power) f cdv A outer s H E).nox (defBody s_l_power) (rd_l_power K a) := by
  exact kss_cons (ks_set (i := 2) sc_l_power.nd ke_int)
      (kss_cons (ks_for (ki_range1 T.n_range (ka_cons (kv 1) ka_nil)) (kg_name (i := 3) sc_l_power.nd) (kss_one (ks_set (i := 2) sc_l_power.nd (ke_op op_mulB (kv 2) (kv 0)))))
      (kss_one (ks_ret (kv 2))))
theorem sc_whole : FnScope ["_law_letters_here", "_law_mark_here", "_law_long", "_law_whole_here", "_law_k", "_law_figure"] ["_law_letters_here", "_law_mark_here", "_law_long"] (defScope s_whole) := ⟨rfl, rfl, rfl, by decide +kernel, rfl, by decide +kernel, by decide +kernel⟩
def rd_whole (K : PySem.W.Frag) (a : Ad) : TS :=
    tSeq (tAsg (tC (.int 0)) (gName 3))
      (tSeq (tFor (iRng1 (tCons (tVar 2) tNil)) (gName 4) (tSeq (tAsg (tC (.int 0)) (gName 5))
      (tSeq (tIfS (tTest (tOp rLtI (tVar 4) (tCB rLenS (tCons (tVar 1) tNil)))) (tAsg (tBM K "str" rIndex (tC (.str (txt ABC))) (tCons (tOp rIxStr (tVar 1) (tVar 4)) tNil)) (gName 5)) (tNext))
      (tAsg (tOp rAddI (tOp rMulI (tVar 3) (tVar 0)) (tVar 5)) (gName 3)))))
      (tRet (tVar 3)))
theorem pr_whole {P : Program} {w : World} {K : PySem.W.Frag} {mg : Str → Option Value} {base : Heap} {a : Ad} (T : Tx K mg a) {f : Addr} {cdv : Value} {A : Around} {outer : List Env} {s : Shared} {H : Hp} {E : XK} (hr : Room 0 (A.deeper (envOfC "_law_whole" (defScope s_whole) s.heap.objs.size f cdv))) :
    QSs (cxOf CX0 P w K mg base ["_law_letters_here", "_law_mark_here", "_law_long", "_law_whole_here", "_law_k", "_law_figure"] "_law_whole" (defScope s_whole) f cdv A outer s H E).nox (defBody s_whole) (rd_whole K a) := by
  exact kss_cons (ks_set (i := 3) sc_whole.nd ke_int)
      (kss_cons (ks_for (ki_range1 T.n_range (ka_cons (kv 2) ka_nil)) (kg_name (i := 4) sc_whole.nd) (kss_cons (ks_set (i := 5) sc_whole.nd ke_int)
      (kss_cons (ks_if (kt_cmp op_lt (kv 4) (ke_callB call_lenS T.n_len PyProof.Rows.Boot.«len» (ka_cons (kv 1) ka_nil))) (kss_one (ks_set (i := 5) sc_whole.nd (ke_bm PySem.F.plainAttrs_str PySem.F.slot_str_index PySem.F.type_str_index mt_index (ke_txt small_eq) (ka_cons (ke_ix ix_strL (kv 1) (kv 4)) ka_nil)))) (kss_nil))
      (kss_one (ks_set (i := 3) sc_whole.nd (ke_op op_add (ke_op op_mulB (kv 3) (kv 0)) (kv 5)))))))
      (kss_one (ks_ret (kv 3))))
theorem sc_span : FnScope ["_law_letters_here", "_law_low", "_law_high", "_law_long", "_law_least", "_law_most"] ["_law_letters_here", "_law_low", "_law_high", "_law_long"] (defScope s_span) := ⟨rfl, rfl, rfl, by decide +kernel, rfl, by decide +kernel, by decide +kernel⟩
def rd_span (K : PySem.W.Frag) (a : Ad) : TS :=
    tSeq (tAsg (tC (.int 1)) (gName 4))
      (tSeq (tIfS (tB (tNotN (tVar 1))) (tAsg (tOp rAddI (tCall spLWhole [] E0 (tCons (tVar 0) (tCons (tVar 1) (tCons (tVar 3) tNil)))) (tC (.int 1))) (gName 4)) (tNext))
      (tSeq (tAsg (tOp rSubI (tCall spPower [] E0 (tCons (tVar 0) (tCons (tVar 3) tNil))) (tC (.int 1))) (gName 5))
      (tSeq (tIfS (tB (tNotN (tVar 2))) (tAsg (tOp rSubI (tCall spLWhole [] E0 (tCons (tVar 0) (tCons (tVar 2) (tCons (tVar 3) tNil)))) (tCB rInt1 (tCons (tOp rLeI (tCB rLenS (tCons (tVar 2) tNil)) (tVar 3)) tNil))) (gName 5)) (tNext))
      (tRet (tTup (tCons (tVar 4) (tCons (tVar 5) tNil)))))))
theorem pr_span {P : Program} {w : World} {K : PySem.W.Frag} {mg : Str → Option Value} {base : Heap} {a : Ad} (T : Tx K mg a) (G_whole : FnOk P w K mg base CX0 1 a.f_whole a.fd_whole ["_law_letters_here", "_law_mark_here", "_law_long"] spLWhole) (G_l_power : FnOk P w K mg base CX0 1 a.f_l_power a.fd_l_power ["_law_letters_here", "_law_long"] spPower) {f : Addr} {cdv : Value} {A : Around} {outer : List Env} {s : Shared} {H : Hp} {E : XK} (hr : Room 1 (A.deeper (envOfC "_law_span" (defScope s_span) s.heap.objs.size f cdv))) :
    QSs (cxOf CX0 P w K mg base ["_law_letters_here", "_law_low", "_law_high", "_law_long", "_law_least", "_law_most"] "_law_span" (defScope s_span) f cdv A outer s H E).nox (defBody s_span) (rd_span K a) := by
  exact kss_cons (ks_set (i := 4) sc_span.nd ke_int)
      (kss_cons (ks_if (kt_notN (kv 1)) (kss_one (ks_set (i := 4) sc_span.nd (ke_op op_add (ke_call G_whole (by exact hr.mono (by decide)) T.g_whole T.F_whole.kp T.b_whole pass0 (ka_cons (kv 0) (ka_cons (kv 1) (ka_cons (kv 3) ka_nil)))) ke_int))) (kss_nil))
      (kss_cons (ks_set (i := 5) sc_span.nd (ke_op op_sub (ke_call G_l_power (by exact hr.mono (by decide)) T.g_l_power T.F_l_power.kp T.b_l_power pass0 (ka_cons (kv 0) (ka_cons (kv 3) ka_nil))) ke_int))
      (kss_cons (ks_if (kt_notN (kv 2)) (kss_one (ks_set (i := 5) sc_span.nd (ke_op op_sub (ke_call G_whole (by exact hr.mono (by decide)) T.g_whole T.F_whole.kp T.b_whole pass0 (ka_cons (kv 0) (ka_cons (kv 2) (ka_cons (kv 3) ka_nil)))) (ke_callTy call_int1 T.n_int PyProof.Rows.Boot.«int» (ka_cons (ke_cmp op_le (ke_callB call_lenS T.n_len PyProof.Rows.Boot.«len» (ka_cons (kv 2) ka_nil)) (kv 3)) ka_nil))))) (kss_nil))
      (kss_one (ks_ret (ke_tup (ka_cons (kv 4) (ka_cons (kv 5) ka_nil))))))))
theorem sc_mark : FnScope ["_law_script", "_law_base", "_law_letters_here", "_law_signs", "_law_size", "_law_few", "_law_text"] ["_law_script", "_law_base", "_law_letters_here"] (defScope s_mark) := ⟨rfl, rfl, rfl, by decide +kernel, rfl, by decide +kernel, by decide +kernel⟩
def rd_mark (K : PySem.W.Frag) (a : Ad) : TS :=
    tSeq (tAsg (tC (.str (txt ABC))) (gName 3))
      (tSeq (tAsg (tOp (rIxL K) (tLst (tCons (tCall (spDraw K) [] E0 (tCons (tVar 0) (tCons (tVar 1) (tCons (tC (.int 4)) tNil)))) (tCons (tCall (spDraw K) [] E0 (tCons (tVar 0) (tCons (tVar 1) (tCons (tC (.int 8)) tNil)))) (tCons (tC (.int 40)) tNil)))) (tOp rDivI (tCall (spDraw K) [] E0 (tCons (tVar 0) (tCons (tOp rAddI (tVar 1) (tC (.int 1))) (tCons (tC (.int 9)) tNil)))) (tC (.int 4)))) (gName 4))
      (tSeq (tAsg (tOp (rIxL K) (tLst (tCons (tVar 2) (tCons (tCB rMin2 (tCons (tC (.int 2)) (tCons (tVar 2) tNil))) tNil))) (tCall (spDraw K) [] E0 (tCons (tVar 0) (tCons (tOp rAddI (tVar 1) (tC (.int 2))) (tCons (tC (.int 2)) tNil))))) (gName 5))
      (tSeq (tAsg (tBM K "str" (rJoin K) (tC (.str (txt []))) (tCons (tComp (iRng1 (tCons (tVar 4) tNil)) [3, 0, 5, 1] tYes (tOp rIxStr (tVar 1) (tCall (spDraw K) [] E0 (tCons (tVar 2) (tCons (tOp rAddI (tOp rAddI (tVar 4) (tC (.int 3))) (tOp rMulI (tC (.int 2)) (tVar 0))) (tCons (tVar 3) tNil)))))) tNil)) (gName 6))
      (tRet (tOp rAddS (tVar 6) (tOp rIxStr (tVar 3) (tOp rAddI (tC (.int 1)) (tCall (spDraw K) [] E0 (tCons (tVar 0) (tCons (tOp rAddI (tVar 1) (tC (.int 90))) (tCons (tOp rSubI (tVar 2) (tC (.int 1))) tNil)))))))))))
theorem pr_mark {P : Program} {w : World} {K : PySem.W.Frag} {mg : Str → Option Value} {base : Heap} {a : Ad} (T : Tx K mg a) (G_draw : FnOk P w K mg base CX0 1 a.f_draw a.fd_draw ["_law_script", "_law_k", "_law_many"] (spDraw K)) {f : Addr} {cdv : Value} {A : Around} {outer : List Env} {s : Shared} {H : Hp} {E : XK} (hr : Room 1 (A.deeper (envOfC "_law_mark" (defScope s_mark) s.heap.objs.size f cdv))) :
    QSs (cxOf CX0 P w K mg base ["_law_script", "_law_base", "_law_letters_here", "_law_signs", "_law_size", "_law_few", "_law_text"] "_law_mark" (defScope s_mark) f cdv A outer s H E).nox (defBody s_mark) (rd_mark K a) := by
  exact kss_cons (ks_setc (i := 3) sc_mark.nd (ke_txt small_eq))
      (kss_cons (ks_set (i := 4) sc_mark.nd (ke_ix ix_list (ke_lst (ka_cons (ke_call G_draw (by exact hr.mono (by decide)) T.g_draw T.F_draw.kp T.b_draw pass0 (ka_cons (kvc 0) (ka_cons (kvc 1) (ka_cons ke_int ka_nil)))) (ka_cons (ke_call G_draw (by exact hr.mono (by decide)) T.g_draw T.F_draw.kp T.b_draw pass0 (ka_cons (kvc 0) (ka_cons (kvc 1) (ka_cons ke_int ka_nil)))) (ka_cons ke_int ka_nil)))) (ke_op op_fdiv (ke_call G_draw (by exact hr.mono (by decide)) T.g_draw T.F_draw.kp T.b_draw pass0 (ka_cons (kvc 0) (ka_cons (ke_op op_add (kvc 1) ke_int) (ka_cons ke_int ka_nil)))) ke_int)))
      (kss_cons (ks_setc (i := 5) sc_mark.nd (ke_ix ix_list (ke_lst (ka_cons (kv 2) (ka_cons (ke_callB (call_min2 (by kernel_rfl)) T.n_min PyProof.Rows.Boot.«min» (ka_cons ke_int (ka_cons (kv 2) ka_nil))) ka_nil))) (ke_call G_draw (by exact hr.mono (by decide)) T.g_draw T.F_draw.kp T.b_draw pass0 (ka_cons (kvc 0) (ka_cons (ke_op op_add (kvc 1) ke_int) (ka_cons ke_int ka_nil))))))
      (kss_cons (ks_set (i := 6) sc_mark.nd (ke_bm PySem.F.plainAttrs_str PySem.F.slot_str_join PySem.F.type_str_join mt_join (ke_txt (by kernel_rfl)) (ka_cons (ke_comp [("_law_signs", 3), ("_law_script", 0), ("_law_few", 5), ("_law_base", 1)] (ki_range1 T.n_range (ka_cons (kv 4) ka_nil)) (fun _ _ _ _ _ => ⟨kts_nil, ke_ix ix_strL (kvc 1) (ke_call G_draw (by exact hr.mono (by decide)) T.g_draw T.F_draw.kp T.b_draw pass0 (ka_cons (kvc 2) (ka_cons (ke_op op_add (ke_op op_add (kvc 4) ke_int) (ke_op op_mulB ke_int (kv 0))) (ka_cons (kvc 3) ka_nil))))⟩)) ka_nil)))
      (kss_one (ks_ret (ke_op op_addS (kv 6) (ke_ix ix_strL (kvc 3) (ke_op op_add ke_int (ke_call G_draw (by exact hr.mono (by decide)) T.g_draw T.F_draw.kp T.b_draw pass0 (ka_cons (kvc 0) (ka_cons (ke_op op_add (kvc 1) ke_int) (ka_cons (ke_op op_sub (kv 2) ke_int) ka_nil))))))))))))
theorem sc_refused : FnScope ["_law_letters_here", "_law_low", "_law_high", "_law_own", "e"] ["_law_letters_here", "_law_low", "_law_high"] (defScope s_refused) := ⟨rfl, rfl, rfl, by decide +kernel, rfl, by decide +kernel, by decide +kernel⟩
def rd_refused (K : PySem.W.Frag) (a : Ad) : TS :=
    tSeq (tAsg (tC (.bl false)) (gName 3))
      (tSeq (tTryE K a.c_ShelfError 4 (fun Φ => tDrop (tCallX (spStem a.c_NoRoom) Φ (tCons (tVar 0) (tCons (tVar 1) (tCons (tVar 2) tNil))))) (tSeq (tAsg (tAndV (tCB (rIsE K) (tCons (tVar 4) (tCons (tC (.ref a.c_NoRoom)) tNil))) (tCB (rIsE K) (tCons (tVar 4) (tCons (tC (.ty "ValueError")) tNil)))) (gName 3))
      (tIfS (tB (tCB (rIsE K) (tCons (tVar 4) (tCons (tTup (tCons (tC (.ref a.c_NoHand)) (tCons (tC (.ref a.c_NoLetters)) (tCons (tC (.ref a.c_NoLine)) (tCons (tC (.ref a.c_NoPlace)) (tCons (tC (.ref a.c_NoShelf)) (tCons (tC (.ref a.c_NoState)) (tCons (tC (.ref a.c_NoThing)) tNil)))))))) tNil)))) (tAsg (tC (.bl false)) (gName 3)) (tNext))))
      (tRet (tVar 3)))
theorem pr_refused {P : Program} {w : World} {K : PySem.W.Frag} {mg : Str → Option Value} {base : Heap} {a : Ad} (T : Tx K mg a) (G_p22 : FnOk P w K mg base (CX1 P w) 5 a.f_p22 a.fd_p22 ["letters", "low", "high"] (spStem a.c_NoRoom)) {f : Addr} {cdv : Value} {A : Around} {outer : List Env} {s : Shared} {H : Hp} {E : XK} (hr : Room 5 (A.deeper (envOfC "_law_refused" (defScope s_refused) s.heap.objs.size f cdv))) :
    QSs (cxOf CX0 P w K mg base ["_law_letters_here", "_law_low", "_law_high", "_law_own", "e"] "_law_refused" (defScope s_refused) f cdv A outer s H E).nox (defBody s_refused) (rd_refused K a) := by
  exact kss_cons (ks_set (i := 3) sc_refused.nd ke_bl)
      (kss_cons (ks_tryE (i := 4) sc_refused.nd T.m_ShelfError (fun _ _ _ hx => kss_one (ks_expr (ke_callX G_p22 (by exact hr.mono (by decide)) T.g_p22 T.F_p22.kp T.b_p22 hx (ka_cons (kv 0) (ka_cons (kv 1) (ka_cons (kv 2) ka_nil)))))) (fun _ => kss_cons (ks_set (i := 3) sc_refused.nd (ke_and (ke_callB call_isE T.n_isinstance PyProof.Rows.Boot.«isinstance» (ka_cons (kv 4) (ka_cons (ke_cls T.m_NoRoom) ka_nil))) (ke_one (ke_callB call_isE T.n_isinstance PyProof.Rows.Boot.«isinstance» (ka_cons (kv 4) (ka_cons (ke_ty T.n_ValueError PyProof.Rows.Boot.«ValueError») ka_nil))))))
      (kss_one (ks_if (kt_val (ke_callB call_isE T.n_isinstance PyProof.Rows.Boot.«isinstance» (ka_cons (kv 4) (ka_cons (ke_tup (ka_cons (ke_cls T.m_NoHand) (ka_cons (ke_cls T.m_NoLetters) (ka_cons (ke_cls T.m_NoLine) (ka_cons (ke_cls T.m_NoPlace) (ka_cons (ke_cls T.m_NoShelf) (ka_cons (ke_cls T.m_NoState) (ka_cons (ke_cls T.m_NoThing) ka_nil)))))))) ka_nil)))) (kss_one (ks_set (i := 3) sc_refused.nd ke_bl)) (kss_nil)))))
      (kss_one (ks_ret (kv 3))))
theorem sc_pair : FnScope ["_law_script", "_law_letters_here", "_law_signs", "_law_marks", "_law_way"] ["_law_script", "_law_letters_here"] (defScope s_pair) := ⟨rfl, rfl, rfl, by decide +kernel, rfl, by decide +kernel, by decide +kernel⟩
def rd_pair (K : PySem.W.Frag) (a : Ad) : TS :=
    tSeq (tAsg (tC (.str (txt ABC))) (gName 2))
      (tSeq (tAsg (tLst (tCons (tCall (spMark41 K) [] E0 (tCons (tVar 0) (tCons (tC (.int 100)) (tCons (tVar 1) tNil)))) (tCons (tCall (spMark41 K) [] E0 (tCons (tVar 0) (tCons (tC (.int 300)) (tCons (tVar 1) tNil)))) tNil))) (gName 3))
      (tSeq (tAsg (tCall (spDraw K) [] E0 (tCons (tVar 0) (tCons (tC (.int 4)) (tCons (tC (.int 9)) tNil)))) (gName 4))
      (tSeq (tIfS (tTest (tOp rEq (tVar 4) (tC (.int 0)))) (tAsg (tOp rAddS (tOp rAddS (tOp (rIxL K) (tVar 3) (tC (.int 0))) (tOp rMulS (tC (.str (txt [97]))) (tCall (spDraw K) [] E0 (tCons (tVar 0) (tCons (tC (.int 5)) (tCons (tC (.int 4)) tNil)))))) (tOp rIxStr (tVar 2) (tOp rAddI (tC (.int 1)) (tCall (spDraw K) [] E0 (tCons (tVar 0) (tCons (tC (.int 6)) (tCons (tOp rSubI (tVar 1) (tC (.int 1))) tNil))))))) (gSub (tVar 3) (tC (.int 1)) rSetL)) (tNext))
      (tSeq (tIfS (tTest (tOp rEq (tVar 4) (tC (.int 1)))) (tAsg (tOp rAddS (tOp (rIxL K) (tVar 3) (tC (.int 0))) (tOp (rIxL K) (tVar 3) (tC (.int 1)))) (gSub (tVar 3) (tC (.int 1)) rSetL)) (tNext))
      (tSeq (tIfS (tTest (tOp rEq (tVar 4) (tC (.int 2)))) (tAsg (tOp rAddS (tOp rAddS (tSl rSlS (tOp (rIxL K) (tVar 3) (tC (.int 0))) tNoPart (tPart (tUn rNegI (tC (.int 1))))) (tOp rMulS (tC (.str (txt [97]))) (tCall (spDraw K) [] E0 (tCons (tVar 0) (tCons (tC (.int 5)) (tCons (tC (.int 4)) tNil)))))) (tC (.str (txt [98])))) (gSub (tVar 3) (tC (.int 1)) rSetL)) (tNext))
      (tSeq (tIfS (tTest (tOp rEq (tVar 4) (tC (.int 3)))) (tRet (tTup (tCons (tC .non) (tCons (tOp (rIxL K) (tVar 3) (tC (.int 0))) tNil)))) (tNext))
      (tSeq (tIfS (tTest (tOp rEq (tVar 4) (tC (.int 4)))) (tRet (tTup (tCons (tOp (rIxL K) (tVar 3) (tC (.int 0))) (tCons (tC .non) tNil)))) (tNext))
      (tSeq (tIfS (tTest (tOp rEq (tVar 4) (tC (.int 5)))) (tRet (tTup (tCons (tC .non) (tCons (tOp rMulS (tC (.str (txt [98]))) (tOp rAddI (tC (.int 1)) (tCall (spDraw K) [] E0 (tCons (tVar 0) (tCons (tC (.int 5)) (tCons (tC (.int 9)) tNil)))))) tNil)))) (tNext))
      (tSeq (tIfS (tAnd (tTest (tOp rEq (tVar 4) (tC (.int 6)))) (tTest (tOp rEq (tCall (spDraw K) [] E0 (tCons (tVar 0) (tCons (tC (.int 5)) (tCons (tC (.int 3)) tNil)))) (tC (.int 0))))) (tRet (tTup (tCons (tC .non) (tCons (tC .non) tNil)))) (tNext))
      (tRet (tTup (tCons (tCB (rMinL2S K) (tCons (tVar 3) tNil)) (tCons (tCB (rMaxL2S K) (tCons (tVar 3) tNil)) tNil)))))))))))))
theorem pr_pair {P : Program} {w : World} {K : PySem.W.Frag} {mg : Str → Option Value} {base : Heap} {a : Ad} (T : Tx K mg a) (G_mark : FnOk P w K mg base CX0 2 a.f_mark a.fd_mark ["_law_script", "_law_base", "_law_letters_here"] (spMark41 K)) (G_draw : FnOk P w K mg base CX0 1 a.f_draw a.fd_draw ["_law_script", "_law_k", "_law_many"] (spDraw K)) {f : Addr} {cdv : Value} {A : Around} {outer : List Env} {s : Shared} {H : Hp} {E : XK} (hr : Room 2 (A.deeper (envOfC "_law_pair" (defScope s_pair) s.heap.objs.size f cdv))) :
    QSs (cxOf CX0 P w K mg base ["_law_script", "_law_letters_here", "_law_signs", "_law_marks", "_law_way"] "_law_pair" (defScope s_pair) f cdv A outer s H E).nox (defBody s_pair) (rd_pair K a) := by
  exact kss_cons (ks_set (i := 2) sc_pair.nd (ke_txt small_eq))
      (kss_cons (ks_set (i := 3) sc_pair.nd (ke_lst (ka_cons (ke_call G_mark (by exact hr.mono (by decide)) T.g_mark T.F_mark.kp T.b_mark pass0 (ka_cons (kv 0) (ka_cons ke_int (ka_cons (kv 1) ka_nil)))) (ka_cons (ke_call G_mark (by exact hr.mono (by decide)) T.g_mark T.F_mark.kp T.b_mark pass0 (ka_cons (kv 0) (ka_cons ke_int (ka_cons (kv 1) ka_nil)))) ka_nil))))
      (kss_cons (ks_set (i := 4) sc_pair.nd (ke_call G_draw (by exact hr.mono (by decide)) T.g_draw T.F_draw.kp T.b_draw pass0 (ka_cons (kv 0) (ka_cons ke_int (ka_cons ke_int ka_nil)))))
      (kss_cons (ks_if (kt_cmp op_eq (kv 4) ke_int) (kss_one (ks_asg (ke_op op_addS (ke_op op_addS (ke_ix ix_list (kv 3) ke_int) (ke_op op_mulS (ke_txt (by kernel_rfl)) (ke_call G_draw (by exact hr.mono (by decide)) T.g_draw T.F_draw.kp T.b_draw pass0 (ka_cons (kv 0) (ka_cons ke_int (ka_cons ke_int ka_nil)))))) (ke_ix ix_strL (kv 2) (ke_op op_add ke_int (ke_call G_draw (by exact hr.mono (by decide)) T.g_draw T.F_draw.kp T.b_draw pass0 (ka_cons (kv 0) (ka_cons ke_int (ka_cons (ke_op op_sub (kv 1) ke_int) ka_nil))))))) (kg_sub (kv 3) ke_int set_list))) (kss_nil))
      (kss_cons (ks_if (kt_cmp op_eq (kv 4) ke_int) (kss_one (ks_asg (ke_op op_addS (ke_ix ix_list (kv 3) ke_int) (ke_ix ix_list (kv 3) ke_int)) (kg_sub (kv 3) ke_int set_list))) (kss_nil))
      (kss_cons (ks_if (kt_cmp op_eq (kv 4) ke_int) (kss_one (ks_asg (ke_op op_addS (ke_op op_addS (ke_slice sl_str (ke_ix ix_list (kv 3) ke_int) ko_none (ko_some (ke_un un_neg ke_int))) (ke_op op_mulS (ke_txt (by kernel_rfl)) (ke_call G_draw (by exact hr.mono (by decide)) T.g_draw T.F_draw.kp T.b_draw pass0 (ka_cons (kv 0) (ka_cons ke_int (ka_cons ke_int ka_nil)))))) (ke_txt (by kernel_rfl))) (kg_sub (kv 3) ke_int set_list))) (kss_nil))
      (kss_cons (ks_if (kt_cmp op_eq (kv 4) ke_int) (kss_one (ks_ret (ke_tup (ka_cons ke_non (ka_cons (ke_ix ix_list (kv 3) ke_int) ka_nil))))) (kss_nil))
      (kss_cons (ks_if (kt_cmp op_eq (kv 4) ke_int) (kss_one (ks_ret (ke_tup (ka_cons (ke_ix ix_list (kv 3) ke_int) (ka_cons ke_non ka_nil))))) (kss_nil))
      (kss_cons (ks_if (kt_cmp op_eq (kv 4) ke_int) (kss_one (ks_ret (ke_tup (ka_cons ke_non (ka_cons (ke_op op_mulS (ke_txt (by kernel_rfl)) (ke_op op_add ke_int (ke_call G_draw (by exact hr.mono (by decide)) T.g_draw T.F_draw.kp T.b_draw pass0 (ka_cons (kv 0) (ka_cons ke_int (ka_cons ke_int ka_nil)))))) ka_nil))))) (kss_nil))
      (kss_cons (ks_if (kt_w (kw_and (kt_cmp op_eq (kv 4) ke_int) (kw_and1 (kt_cmp op_eq (ke_call G_draw (by exact hr.mono (by decide)) T.g_draw T.F_draw.kp T.b_draw pass0 (ka_cons (kv 0) (ka_cons ke_int (ka_cons ke_int ka_nil)))) ke_int)))) (kss_one (ks_ret (ke_tup (ka_cons ke_non (ka_cons ke_non ka_nil))))) (kss_nil))
      (kss_one (ks_ret (ke_tup (ka_cons (ke_callB (call_minL2S (by kernel_rfl)) T.n_min PyProof.Rows.Boot.«min» (ka_cons (kv 3) ka_nil)) (ka_cons (ke_callB (call_maxL2S (by kernel_rfl)) T.n_max PyProof.Rows.Boot.«max» (ka_cons (kv 3) ka_nil)) ka_nil))))))))))))))
theorem sc_stems : FnScope ["_law_letters_here", "_law_low", "_law_high", "_law_long", "_law_least", "_law_most", "_law_many", "_law_begin"] ["_law_letters_here", "_law_low", "_law_high", "_law_long"] (defScope s_stems) := ⟨rfl, rfl, rfl, by decide +kernel, rfl, by decide +kernel, by decide +kernel⟩
def rd_stems (K : PySem.W.Frag) (a : Ad) : TS :=
    tSeq (tAsg (tCall spSpan [] E0 (tCons (tVar 0) (tCons (tVar 1) (tCons (tVar 2) (tCons (tVar 3) tNil))))) (gTup K 2 (gCons (gName 4) (gCons (gName 5) gNil))))
      (tSeq (tAsg (tOp rSubI (tOp rSubI (tVar 5) (tOp rDivI (tVar 5) (tVar 0))) (tOp rSubI (tOp rSubI (tVar 4) (tC (.int 1))) (tOp rDivI (tOp rSubI (tVar 4) (tC (.int 1))) (tVar 0)))) (gName 6))
      (tSeq (tIfS (tAnd (tB (tNotN (tVar 2))) (tTest (tOp rLtI (tVar 3) (tCB rLenS (tCons (tVar 2) tNil))))) (tSeq (tAsg (tSl rSlS (tVar 2) tNoPart (tPart (tVar 3))) (gName 7))
      (tIfS (tAnd (tTest (tOp rNe (tOp rIxLast (tVar 7) (tUn rNegI (tC (.int 1)))) (tC (.str (txt [97]))))) (tOr (tB (tIsN (tVar 1))) (tTest (tOp rLtS (tVar 1) (tVar 7))))) (tAsg (tOp rSubI (tVar 6) (tC (.int 1))) (gName 6)) (tNext))) (tNext))
      (tRet (tTup (tCons (tVar 4) (tCons (tVar 6) tNil))))))
theorem pr_stems {P : Program} {w : World} {K : PySem.W.Frag} {mg : Str → Option Value} {base : Heap} {a : Ad} (T : Tx K mg a) (G_span : FnOk P w K mg base CX0 2 a.f_span a.fd_span ["_law_letters_here", "_law_low", "_law_high", "_law_long"] spSpan) {f : Addr} {cdv : Value} {A : Around} {outer : List Env} {s : Shared} {H : Hp} {E : XK} (hr : Room 2 (A.deeper (envOfC "_law_stems" (defScope s_stems) s.heap.objs.size f cdv))) :
    QSs (cxOf CX0 P w K mg base ["_law_letters_here", "_law_low", "_law_high", "_law_long", "_law_least", "_law_most", "_law_many", "_law_begin"] "_law_stems" (defScope s_stems) f cdv A outer s H E).nox (defBody s_stems) (rd_stems K a) := by
  exact kss_cons (ks_asg (ke_call G_span (by exact hr.mono (by decide)) T.g_span T.F_span.kp T.b_span pass0 (ka_cons (kv 0) (ka_cons (kv 1) (ka_cons (kv 2) (ka_cons (kv 3) ka_nil))))) (kg_tup (kgs_cons (kg_name (i := 4) sc_stems.nd) (kgs_cons (kg_name (i := 5) sc_stems.nd) kgs_nil))))
      (kss_cons (ks_set (i := 6) sc_stems.nd (ke_op op_sub (ke_op op_sub (kv 5) (ke_op op_fdiv (kv 5) (kv 0))) (ke_op op_sub (ke_op op_sub (kv 4) ke_int) (ke_op op_fdiv (ke_op op_sub (kv 4) ke_int) (kv 0)))))
      (kss_cons (ks_if (kt_w (kw_and (kt_notN (kv 2)) (kw_and1 (kt_cmp op_lt (kv 3) (ke_callB call_lenS T.n_len PyProof.Rows.Boot.«len» (ka_cons (kv 2) ka_nil)))))) (kss_cons (ks_set (i := 7) sc_stems.nd (ke_slice sl_str (kv 2) ko_none (ko_some (kv 3))))
      (kss_one (ks_if (kt_w (kw_and (kt_cmp op_ne (ke_ix ix_last (kv 7) (ke_un un_neg ke_int)) (ke_txt (by kernel_rfl))) (kw_and1 (kt_w (kw_or (kt_isN (kv 1)) (kw_or1 (kt_cmp op_ltS (kv 1) (kv 7)))))))) (kss_one (ks_set (i := 6) sc_stems.nd (ke_op op_sub (kv 6) ke_int))) (kss_nil)))) (kss_nil))
      (kss_one (ks_ret (ke_tup (ka_cons (kv 4) (ka_cons (kv 6) ka_nil)))))))
theorem sc_law : FnScope ["_law_script", "_law_letters_here", "_law_low", "_law_high", "_law_stem", "_law_sign", "_law_long", "_law_least", "_law_many", "_law_below", "_law_number", "_law_tail"] ["_law_script"] (defScope s_law) := ⟨rfl, rfl, rfl, by decide +kernel, rfl, by decide +kernel, by decide +kernel⟩
def rd_law (K : PySem.W.Frag) (a : Ad) : TS :=
    tSeq (tAsg (tCall (spLetters K) [] E0 (tCons (tVar 0) tNil)) (gName 1))
      (tSeq (tAsg (tCall (spPair K) [] E0 (tCons (tVar 0) (tCons (tVar 1) tNil))) (gTup K 2 (gCons (gName 2) (gCons (gName 3) gNil))))
      (tSeq (tIfS (tAnd (tB (tNotN (tVar 2))) (tB (tNotN (tVar 3)))) (tSeq (tIfS (tNot (tB (tCall spRefused [] E0 (tCons (tVar 1) (tCons (tVar 3) (tCons (tVar 2) tNil)))))) (tRet (tC (.bl false))) (tNext))
      (tIfS (tTest (tOp rEq (tVar 2) (tVar 3))) (tRet (tC (.bl true))) (tNext))) (tNext))
      (tSeq (tAsg (tCall (spStem a.c_NoRoom) [] E0 (tCons (tVar 1) (tCons (tVar 2) (tCons (tVar 3) tNil)))) (gName 4))
      (tSeq (tIfS (tOr (tNot (tB (tIsi K "str" (tVar 4)))) (tOr (tTest (tOp rEq (tVar 4) (tC (.str (txt []))))) (tTest (tOp rEq (tOp rIxLast (tVar 4) (tUn rNegI (tC (.int 1)))) (tC (.str (txt [97]))))))) (tRet (tC (.bl false))) (tNext))
      (tSeq (tFor (iStr (tVar 4)) (gName 5) (tIfS (tTest (tOp rNotIn1 (tVar 5) (tSl rSlS (tC (.str (txt ABC))) tNoPart (tPart (tVar 1))))) (tRet (tC (.bl false))) (tNext)))
      (tSeq (tFor (iRng2 (tCons (tC (.int 1)) (tCons (tCB rLenS (tCons (tVar 4) tNil)) tNil))) (gName 6) (tIfS (tTest (tOp rGtI (tOp (rIxT K) (tCall spStems [] E0 (tCons (tVar 1) (tCons (tVar 2) (tCons (tVar 3) (tCons (tVar 6) tNil))))) (tC (.int 1))) (tC (.int 0)))) (tRet (tC (.bl false))) (tNext)))
      (tSeq (tAsg (tCall spStems [] E0 (tCons (tVar 1) (tCons (tVar 2) (tCons (tVar 3) (tCons (tCB rLenS (tCons (tVar 4) tNil)) tNil))))) (gTup K 2 (gCons (gName 7) (gCons (gName 8) gNil))))
      (tSeq (tAsg (tOp rSubI (tOp rSubI (tVar 7) (tC (.int 1))) (tOp rDivI (tOp rSubI (tVar 7) (tC (.int 1))) (tVar 1))) (gName 9))
      (tSeq (tAsg (tCall spLWhole [] E0 (tCons (tVar 1) (tCons (tVar 4) (tCons (tCB rLenS (tCons (tVar 4) tNil)) tNil)))) (gName 10))
      (tSeq (tIfS (tTest (tOp rNe (tOp rSubI (tVar 10) (tOp rDivI (tVar 10) (tVar 1))) (tOp rAddI (tOp rAddI (tVar 9) (tC (.int 1))) (tOp rDivI (tOp rSubI (tVar 8) (tC (.int 1))) (tC (.int 2)))))) (tRet (tC (.bl false))) (tNext))
      (tSeq (tFor (iList K (tLst (tCons (tC (.str (txt []))) (tCons (tC (.str (txt [98]))) (tCons (tOp rMulS (tOp rIxStr (tC (.str (txt ABC))) (tOp rSubI (tVar 1) (tC (.int 1)))) (tC (.int 9))) tNil))))) (gName 11) (tIfS (tOr (tAnd (tB (tNotN (tVar 2))) (tNot (tTest (tOp rLtS (tVar 2) (tOp rAddS (tVar 4) (tVar 11)))))) (tAnd (tB (tNotN (tVar 3))) (tNot (tTest (tOp rLtS (tOp rAddS (tVar 4) (tVar 11)) (tVar 3)))))) (tRet (tC (.bl false))) (tNext)))
      (tRet (tOrV (tIsN (tVar 3)) (tOp rNe (tSl rSlS (tVar 3) tNoPart (tPart (tCB rLenS (tCons (tVar 4) tNil)))) (tVar 4)))))))))))))))
theorem pr_law {P : Program} {w : World} {K : PySem.W.Frag} {mg : Str → Option Value} {base : Heap} {a : Ad} (T : Tx K mg a) (G_letters : FnOk P w K mg base CX0 2 a.f_letters a.fd_letters ["_law_script"] (spLetters K)) (G_pair : FnOk P w K mg base CX0 3 a.f_pair a.fd_pair ["_law_script", "_law_letters_here"] (spPair K)) (G_refused : FnOk P w K mg base CX0 6 a.f_refused a.fd_refused ["_law_letters_here", "_law_low", "_law_high"] spRefused) (G_p22 : FnOk P w K mg base (CX1 P w) 5 a.f_p22 a.fd_p22 ["letters", "low", "high"] (spStem a.c_NoRoom)) (G_stems : FnOk P w K mg base CX0 3 a.f_stems a.fd_stems ["_law_letters_here", "_law_low", "_law_high", "_law_long"] spStems) (G_whole : FnOk P w K mg base CX0 1 a.f_whole a.fd_whole ["_law_letters_here", "_law_mark_here", "_law_long"] spLWhole) {f : Addr} {cdv : Value} {A : Around} {outer : List Env} {s : Shared} {H : Hp} {E : XK} (hr : Room 6 (A.deeper (envOfC "law" (defScope s_law) s.heap.objs.size f cdv))) :
    QSs (cxOf CX0 P w K mg base ["_law_script", "_law_letters_here", "_law_low", "_law_high", "_law_stem", "_law_sign", "_law_long", "_law_least", "_law_many", "_law_below", "_law_number", "_law_tail"] "law" (defScope s_law) f cdv A outer s H E).nox (defBody s_law) (rd_law K a) := by
  exact kss_cons (ks_set (i := 1) sc_law.nd (ke_call G_letters (by exact hr.mono (by decide)) T.g_letters T.F_letters.kp T.b_letters pass0 (ka_cons (kv 0) ka_nil)))
      (kss_cons (ks_asg (ke_call G_pair (by exact hr.mono (by decide)) T.g_pair T.F_pair.kp T.b_pair pass0 (ka_cons (kv 0) (ka_cons (kv 1) ka_nil))) (kg_tup (kgs_cons (kg_name (i := 2) sc_law.nd) (kgs_cons (kg_name (i := 3) sc_law.nd) kgs_nil))))
      (kss_cons (ks_if (kt_w (kw_and (kt_notN (kv 2)) (kw_and1 (kt_notN (kv 3))))) (kss_cons (ks_if (kt_not (kt_val (ke_call G_refused (by exact hr.mono (by decide)) T.g_refused T.F_refused.kp T.b_refused pass0 (ka_cons (kv 1) (ka_cons (kv 3) (ka_cons (kv 2) ka_nil)))))) (kss_one (ks_ret ke_bl)) (kss_nil))
      (kss_one (ks_if (kt_cmp op_eq (kv 2) (kv 3)) (kss_one (ks_ret ke_bl)) (kss_nil)))) (kss_nil))
      (kss_cons (ks_set (i := 4) sc_law.nd (ke_call G_p22 (by exact hr.mono (by decide)) T.g_p22 T.F_p22.kp T.b_p22 pass1 (ka_cons (kv 1) (ka_cons (kv 2) (ka_cons (kv 3) ka_nil)))))
      (kss_cons (ks_if (kt_w (kw_or (kt_not (kt_val (ke_isi T.n_isinstance PyProof.Rows.Boot.«isinstance» T.n_str PyProof.Rows.Boot.«str» (kv 4)))) (kw_or (kt_cmp op_eq (kv 4) (ke_txt (by kernel_rfl))) (kw_or1 (kt_cmp op_eq (ke_ix ix_last (kv 4) (ke_un un_neg ke_int)) (ke_txt (by kernel_rfl))))))) (kss_one (ks_ret ke_bl)) (kss_nil))
      (kss_cons (ks_for (ki_str (kv 4)) (kg_name (i := 5) sc_law.nd) (kss_one (ks_if (kt_cmp op_notin1 (kv 5) (ke_slice sl_str (ke_txt small_eq) ko_none (ko_some (kv 1)))) (kss_one (ks_ret ke_bl)) (kss_nil))))
      (kss_cons (ks_for (ki_range2 T.n_range (ka_cons ke_int (ka_cons (ke_callB call_lenS T.n_len PyProof.Rows.Boot.«len» (ka_cons (kv 4) ka_nil)) ka_nil))) (kg_name (i := 6) sc_law.nd) (kss_one (ks_if (kt_cmp op_gt (ke_ix ix_tup (ke_call G_stems (by exact hr.mono (by decide)) T.g_stems T.F_stems.kp T.b_stems pass0 (ka_cons (kv 1) (ka_cons (kv 2) (ka_cons (kv 3) (ka_cons (kv 6) ka_nil))))) ke_int) ke_int) (kss_one (ks_ret ke_bl)) (kss_nil))))
      (kss_cons (ks_asg (ke_call G_stems (by exact hr.mono (by decide)) T.g_stems T.F_stems.kp T.b_stems pass0 (ka_cons (kv 1) (ka_cons (kv 2) (ka_cons (kv 3) (ka_cons (ke_callB call_lenS T.n_len PyProof.Rows.Boot.«len» (ka_cons (kv 4) ka_nil)) ka_nil))))) (kg_tup (kgs_cons (kg_name (i := 7) sc_law.nd) (kgs_cons (kg_name (i := 8) sc_law.nd) kgs_nil))))
      (kss_cons (ks_set (i := 9) sc_law.nd (ke_op op_sub (ke_op op_sub (kv 7) ke_int) (ke_op op_fdiv (ke_op op_sub (kv 7) ke_int) (kv 1))))
      (kss_cons (ks_set (i := 10) sc_law.nd (ke_call G_whole (by exact hr.mono (by decide)) T.g_whole T.F_whole.kp T.b_whole pass0 (ka_cons (kv 1) (ka_cons (kv 4) (ka_cons (ke_callB call_lenS T.n_len PyProof.Rows.Boot.«len» (ka_cons (kv 4) ka_nil)) ka_nil)))))
      (kss_cons (ks_if (kt_cmp op_ne (ke_op op_sub (kv 10) (ke_op op_fdiv (kv 10) (kv 1))) (ke_op op_add (ke_op op_add (kv 9) ke_int) (ke_op op_fdiv (ke_op op_sub (kv 8) ke_int) ke_int))) (kss_one (ks_ret ke_bl)) (kss_nil))
      (kss_cons (ks_for (ki_list (ke_lst (ka_cons (ke_txt (by kernel_rfl)) (ka_cons (ke_txt (by kernel_rfl)) (ka_cons (ke_op op_mulS (ke_ix ix_strL (ke_txt small_eq) (ke_op op_sub (kv 1) ke_int)) ke_int) ka_nil))))) (kg_name (i := 11) sc_law.nd) (kss_one (ks_if (kt_w (kw_or (kt_w (kw_and (kt_notN (kv 2)) (kw_and1 (kt_not (kt_cmp op_ltS (kv 2) (ke_op op_addS (kv 4) (kv 11))))))) (kw_or1 (kt_w (kw_and (kt_notN (kv 3)) (kw_and1 (kt_not (kt_cmp op_ltS (ke_op op_addS (kv 4) (kv 11)) (kv 3))))))))) (kss_one (ks_ret ke_bl)) (kss_nil))))
      (kss_one (ks_ret (ke_or (ke_isN (kv 3)) (ke_one (ke_cmp op_ne (ke_slice sl_str (kv 3) ko_none (ko_some (ke_callB call_lenS T.n_len PyProof.Rows.Boot.«len» (ka_cons (kv 4) ka_nil)))) (kv 4)))))))))))))))))
end K41
set_option Elab.async false
set_option linter.all false
set_option maxRecDepth 100000
set_option maxHeartbeats 4000000
namespace K41
open PySem PySem.Spec PyProof.Rows L2 MM
theorem read_refused {K : PySem.W.Frag} {mg : Str → Option Value} {a : Ad} (T : Tx K mg a) {N : List Str} {vs : List V} {H : Hp} {Q : VK} {E : XK} (hN : N.length = 5) (h : spRefused vs H Q E) : rd_refused K a { nx := fun _ H' => Q .non H', rt := Q } (L2.start N vs) H := by
  obtain ⟨L, lo, hi, rfl, hL, hL26, M, no, q⟩ := h
  unfold rd_refused L2.start
  rw [hN]
  simp only [tTryE, tCallX, tCompSet,tRaise,tIsi,tSeq,tAsg,gName,tOp,tUn,tVar,tC,tTest,tB,tIf,tIfS,tAnd,tOr,tNot,tAndV,tOrV,tNotV,tRet,tRetN,tNext,tDrop,tCB,tCons,tNil,tBM,tBM0,tCall,tLst,tTup,tSl,tPart,tNoPart,tIsN,tNotN,tYes,tBreak,tCont,rI0,rI,rU,rEq,rNe,L2.start,compSt,List.map_cons,List.map_nil,List.length_cons,List.length_nil,List.replicate_succ,List.replicate_zero,List.cons_append,List.nil_append,List.append_nil,List.getElem?_cons_zero,List.getElem?_cons_succ,List.set_cons_zero,List.set_cons_succ,Option.some.injEq,Option.join_some,V.int.injEq,V.str.injEq,V.bl.injEq,V.ref.injEq,txt_inj,exists_eq_left',exists_eq_left,exists_and_left,and_true,true_and,decide_eq_true_eq,reduceCtorEq,decide_false,decide_true,Bool.not_false,Bool.not_true,if_true,if_false,Bool.false_eq_true,Nat.reduceAdd,Nat.reduceSub,Bool.not_eq_true',decide_eq_false_iff_not,not_true_eq_false,not_false_eq_true]
  refine ⟨L, lo, hi, rfl, hL, hL26, M, fun z => absurd z no, fun _ => ?_⟩
  refine ⟨a.c_NoRoom, rfl, ⟨⟨_, _, T.x_NoRoom⟩, ⟨_, _, T.x_ShelfError, by decide⟩, T.s_NoRoom_ShelfError⟩, fun ea hea => ?_⟩
  and_intros
  have he : (upd H ea (excO ea a.c_NoRoom)) ea = some (excO ea a.c_NoRoom) := upd_same
  refine isE_go he T.e_NoRoom T.j_0 ⟨_, rfl, ?_⟩
  and_intros
  refine isET_go he T.e_NoRoom T.j_1 ?_
  refine ⟨by decide, fun p hp => ?_⟩
  have he2 : (upd (upd H ea (excO ea a.c_NoRoom)) p (.tup [.ref a.c_NoHand, .ref a.c_NoLetters, .ref a.c_NoLine, .ref a.c_NoPlace, .ref a.c_NoShelf, .ref a.c_NoState, .ref a.c_NoThing])) ea = some (excO ea a.c_NoRoom) := by
    rw [upd_ne (fun z => by subst z; rw [upd_same] at hp; cases hp)]
    exact he
  refine isEs_go (ds := [a.c_NoHand, a.c_NoLetters, a.c_NoLine, a.c_NoPlace, a.c_NoShelf, a.c_NoState, a.c_NoThing]) he2 T.e_NoRoom upd_same T.j_2 ⟨_, rfl, ?_⟩
  and_intros
  exact q _ ((Same.up H hea).new hp)
theorem read_stems {K : PySem.W.Frag} {a : Ad} {N : List Str} {vs : List V} {H : Hp} {Q : VK} {E : XK} (hN : N.length = 8) (h : spStems vs H Q E) : rd_stems K a { nx := fun _ H' => Q .non H', rt := Q } (L2.start N vs) H := by
  obtain ⟨L, lo, hi, n, rfl, hL, hL26, M, hn, hn2, q⟩ := h
  unfold rd_stems L2.start
  rw [hN]
  have hlen := M.lens
  refine seq_any fun c hc => ?_
  simp only [gTup, gCons, gNil, tCompSet,tRaise,tIsi,tSeq,tAsg,gName,tOp,tUn,tVar,tC,tTest,tB,tIf,tIfS,tAnd,tOr,tNot,tAndV,tOrV,tNotV,tRet,tRetN,tNext,tDrop,tCB,tCons,tNil,tBM,tBM0,tCall,tLst,tTup,tSl,tPart,tNoPart,tIsN,tNotN,tYes,tBreak,tCont,rI0,rI,rU,rEq,rNe,L2.start,compSt,List.map_cons,List.map_nil,List.length_cons,List.length_nil,List.replicate_succ,List.replicate_zero,List.cons_append,List.nil_append,List.append_nil,List.getElem?_cons_zero,List.getElem?_cons_succ,List.set_cons_zero,List.set_cons_succ,Option.some.injEq,Option.join_some,V.int.injEq,V.str.injEq,V.bl.injEq,V.ref.injEq,txt_inj,exists_eq_left',exists_eq_left,exists_and_left,and_true,true_and,decide_eq_true_eq,reduceCtorEq,decide_false,decide_true,Bool.not_false,Bool.not_true,if_true,if_false,Bool.false_eq_true,Nat.reduceAdd,Nat.reduceSub,Bool.not_eq_true',decide_eq_false_iff_not,not_true_eq_false,not_false_eq_true]
  refine ⟨L, lo, hi, n, rfl, hL, hL26, M, by omega, fun p hp => ?_⟩
  refine ⟨_, rfl, _, SqT.here, rfl, _, _, rfl, _, [], rfl, rfl, hc _ _ ?_⟩
  clear hc c
  have s1 := Same.up (o := HO.tup [.int (loN L lo n : Nat), .int ((hiN L hi n : Nat) - 1)]) H hp
  generalize upd H p _ = H1 at s1 ⊢
  refine seq_set fun c hc => ?_
  and_intros
  refine ⟨cdiv (by omega) (by omega), cdiv (by omega) (by omega), hc _ _ ?_⟩
  clear hc c
  have e1 := obI (L := L) (w := hiN L hi n) hL (hiN_pos hL M)
  have e2 := obI (L := L) (w := loN L lo n) hL (by show 1 ≤ valO L lo n + 1; omega)
  rw [e1, e2]
  have er : ((MM.ob L (endsL L 1 0) (hiN L hi n) : Nat) : Int) - ((MM.ob L (endsL L 1 0) (loN L lo n) : Nat) : Int) = roomI L (endsL L 1 0) lo hi n := rfl
  rw [er]
  refine seq_any fun c hc => ?_
  suffices main : ∀ (z : Int) (v7 : Option V), StemsZ L lo hi n z → c [some (.int L), some (oV lo), some (oV hi), some (.int n), some (.int (loN L lo n : Nat)), some (.int ((hiN L hi n : Nat) - 1)), some (.int z), v7] H1 by
    cases hi with
    | none =>
      simp only [oV, tCompSet,tRaise,tIsi,tSeq,tAsg,gName,tOp,tUn,tVar,tC,tTest,tB,tIf,tIfS,tAnd,tOr,tNot,tAndV,tOrV,tNotV,tRet,tRetN,tNext,tDrop,tCB,tCons,tNil,tBM,tBM0,tCall,tLst,tTup,tSl,tPart,tNoPart,tIsN,tNotN,tYes,tBreak,tCont,rI0,rI,rU,rEq,rNe,L2.start,compSt,List.map_cons,List.map_nil,List.length_cons,List.length_nil,List.replicate_succ,List.replicate_zero,List.cons_append,List.nil_append,List.append_nil,List.getElem?_cons_zero,List.getElem?_cons_succ,List.set_cons_zero,List.set_cons_succ,Option.some.injEq,Option.join_some,V.int.injEq,V.str.injEq,V.bl.injEq,V.ref.injEq,txt_inj,exists_eq_left',exists_eq_left,exists_and_left,and_true,true_and,decide_eq_true_eq,reduceCtorEq,decide_false,decide_true,Bool.not_false,Bool.not_true,if_true,if_false,Bool.false_eq_true,Nat.reduceAdd,Nat.reduceSub,Bool.not_eq_true',decide_eq_false_iff_not,not_true_eq_false,not_false_eq_true]
      exact main _ _ ⟨fun ⟨u, e, _⟩ => (nomatch e), fun _ => rfl⟩
    | some u =>
      obtain ⟨mu, zu⟩ := M.mhi u rfl
      simp only [oV, tCompSet,tRaise,tIsi,tSeq,tAsg,gName,tOp,tUn,tVar,tC,tTest,tB,tIf,tIfS,tAnd,tOr,tNot,tAndV,tOrV,tNotV,tRet,tRetN,tNext,tDrop,tCB,tCons,tNil,tBM,tBM0,tCall,tLst,tTup,tSl,tPart,tNoPart,tIsN,tNotN,tYes,tBreak,tCont,rI0,rI,rU,rEq,rNe,L2.start,compSt,List.map_cons,List.map_nil,List.length_cons,List.length_nil,List.replicate_succ,List.replicate_zero,List.cons_append,List.nil_append,List.append_nil,List.getElem?_cons_zero,List.getElem?_cons_succ,List.set_cons_zero,List.set_cons_succ,Option.some.injEq,Option.join_some,V.int.injEq,V.str.injEq,V.bl.injEq,V.ref.injEq,txt_inj,exists_eq_left',exists_eq_left,exists_and_left,and_true,true_and,decide_eq_true_eq,reduceCtorEq,decide_false,decide_true,Bool.not_false,Bool.not_true,if_true,if_false,Bool.false_eq_true,Nat.reduceAdd,Nat.reduceSub,Bool.not_eq_true',decide_eq_false_iff_not,not_true_eq_false,not_false_eq_true]
      refine lenS_go (by omega) ⟨_, rfl, ?_⟩
      by_cases h1 : (n : Int) < (u.length : Int)
      · rw [if_pos h1]
        refine slS_go (by omega) ?_
        rw [cutL_to (by omega) (by omega), Int.toNat_natCast]
        have hl : (u.take n).length = n := by rw [List.length_take]; omega
        obtain ⟨lc, hlc⟩ : ∃ lc, (u.take n).getLast? = some lc := by
          cases e : (u.take n).getLast? with
          | none => rw [List.getLast?_eq_none_iff] at e; rw [e] at hl; simp at hl; omega
          | some c => exact ⟨c, rfl⟩
        refine ⟨u.take n, lc, rfl, rfl, by rw [hl, sizeLine_eq]; omega, hlc, ⟨rfl, ?_⟩⟩
        by_cases h2 : lc = 97
        · rw [if_neg (fun z => z (by rw [h2]))]
          exact main _ _ ⟨fun ⟨u', e, _, h, _⟩ => by cases e; rw [hlc, h2] at h; exact absurd rfl h, fun _ => rfl⟩
        · rw [if_pos (fun z => h2 (by simpa [txt_inj] using z))]
          cases lo with
          | none =>
            and_intros
            exact main _ _ ⟨fun _ => rfl, fun z => absurd ⟨u, rfl, by omega, by rw [hlc]; simpa using h2, fun l e => nomatch e⟩ z⟩
          | some l =>
            and_intros
            refine ⟨l, _, rfl, rfl, ⟨_, rfl, ?_⟩⟩
            by_cases h3 : l < u.take n
            · rw [decide_eq_true h3]
              and_intros
              exact main _ _ ⟨fun _ => rfl, fun z => absurd ⟨u, rfl, by omega, by rw [hlc]; simpa using h2, fun l' e => by cases e; exact h3⟩ z⟩
            · rw [decide_eq_false h3]
              and_intros
              exact main _ _ ⟨fun ⟨u', e, _, _, h⟩ => by cases e; exact absurd (h l rfl) h3, fun _ => rfl⟩
      · rw [if_neg h1]
        exact main _ _ ⟨fun ⟨u', e, h, _⟩ => by cases e; omega, fun _ => rfl⟩
  intro z v7 hz
  refine hc _ _ ?_
  and_intros
  exact ⟨by decide, fun p2 hp2 => q _ p2 z s1 hp2 hz⟩
end K41
set_option Elab.async false
set_option linter.all false
set_option maxRecDepth 100000
set_option maxHeartbeats 4000000
namespace K41
open PySem PySem.Spec PyProof.Rows L2 MM
theorem cutL_but {l : List Nat} : cutL l none (some (-1)) = l.dropLast := by
  unfold cutL
  have e1 : HT.sIx l.length 0 none = 0 := rfl
  have e2 : HT.sIx l.length l.length (some (-1)) = l.length - 1 := by
    unfold HT.sIx
    simp
    omega
  rw [e1, e2, List.drop_zero, Nat.sub_zero, List.dropLast_eq_take]
theorem mark_snoc {L : Nat} {t : List Nat} {r : Nat} (ht : Ls L t) (h1 : 1 ≤ r) (h2 : r < L) : Mark L (t ++ [97 + r]) :=
  ⟨ht.app fun c hc => by rw [List.mem_singleton.mp hc]; omega, Na.app (Na.one (by omega)) (by simp), by simp⟩
theorem mark_app {L : Nat} {a b : List Nat} (ha : Ls L a) (hb : Mark L b) : Mark L (a ++ b) := ⟨ha.app hb.ls, Na.app hb.na hb.ne, by simp [hb.ne]⟩
theorem ls_rep {L c n : Nat} (h1 : 97 ≤ c) (h2 : c < 97 + L) : Ls L (List.replicate n c) := fun d hd => by rw [(List.mem_replicate.mp hd).2]; exact ⟨h1, h2⟩
theorem mark_rep {L n : Nat} (hL : 2 ≤ L) (hn : 0 < n) : Mark L (List.replicate n 98) :=
  ⟨ls_rep (by omega) (by omega), fun c hc => by rw [List.getLast?_replicate, if_neg (by omega)] at hc; cases hc; decide, fun e => by have := congrArg List.length e; simp at this; omega⟩
theorem read_pair {K : PySem.W.Frag} {a : Ad} {N : List Str} {vs : List V} {H : Hp} {Q : VK} {E : XK} (hN : N.length = 5) (h : spPair K vs H Q E) : rd_pair K a { nx := fun _ H' => Q .non H', rt := Q } (L2.start N vs) H := by
  obtain ⟨sc, ns, L, rfl, hS, hl, hL, hL26, q⟩ := h
  unfold rd_pair L2.start
  rw [hN]
  refine seq_set fun c hc => ?_
  and_intros
  refine hc _ _ ?_
  clear hc c
  refine seq_set fun c hc => ?_
  and_intros
  refine ⟨sc, ns, _, L, rfl, hS, hl, by decide, by decide, hL, hL26, fun H1 m0 s1 M0 z0 => ?_⟩
  refine ⟨sc, ns, _, L, rfl, s1.seq hS, hl, by decide, by decide, hL, hL26, fun H2 m1 s2 M1 z1 => ?_⟩
  refine ⟨by decide, fun p hp => hc _ _ ?_⟩
  clear hc c
  have s3 := (s1.trans s2).new (o := HO.lst [V.str (txt m0), V.str (txt m1)]) hp
  have hp0 : H p = none := (s1.trans s2).free hp
  have h3 : (upd H2 p (.lst [V.str (txt m0), V.str (txt m1)])) p = some (.lst [strV m0, strV m1]) := upd_same
  generalize upd H2 p _ = H3 at s3 h3 ⊢
  have hS3 := s3.seq hS
  refine seq_set fun c hc => ?_
  and_intros
  refine ⟨sc, ns, _, _, rfl, hS3, hl, by decide, by decide, by decide, fun way hw0 hw1 => hc _ _ ?_⟩
  clear hc c
  have set1 : ∀ (H4 : Hp) (x m' : List Nat), Same H H4 → H4 p = some (.lst [strV m0, strV x]) → Same H (upd H4 p (.lst [strV m0, strV m'])) := fun H4 x m' s h => s.set hp0
  refine seq_any fun c hc => ?_
  suffices main : ∀ H4 m1, Same H H4 → H4 p = some (.lst [strV m0, strV m1]) → Mark L m1 → m1.length ≤ 100 → c [some (.ref sc), some (.int L), some (.str (txt ABC)), some (.ref p), some (.int way)] H4 by
    simp only [gSub, rSetL, tCompSet,tRaise,tIsi,tSeq,tAsg,gName,tOp,tUn,tVar,tC,tTest,tB,tIf,tIfS,tAnd,tOr,tNot,tAndV,tOrV,tNotV,tRet,tRetN,tNext,tDrop,tCB,tCons,tNil,tBM,tBM0,tCall,tLst,tTup,tSl,tPart,tNoPart,tIsN,tNotN,tYes,tBreak,tCont,rI0,rI,rU,rEq,rNe,L2.start,compSt,List.map_cons,List.map_nil,List.length_cons,List.length_nil,List.replicate_succ,List.replicate_zero,List.cons_append,List.nil_append,List.append_nil,List.getElem?_cons_zero,List.getElem?_cons_succ,List.set_cons_zero,List.set_cons_succ,Option.some.injEq,Option.join_some,V.int.injEq,V.str.injEq,V.bl.injEq,V.ref.injEq,txt_inj,exists_eq_left',exists_eq_left,exists_and_left,and_true,true_and,decide_eq_true_eq,reduceCtorEq,decide_false,decide_true,Bool.not_false,Bool.not_true,if_true,if_false,Bool.false_eq_true,Nat.reduceAdd,Nat.reduceSub,Bool.not_eq_true',decide_eq_false_iff_not,not_true_eq_false,not_false_eq_true]
    refine ⟨rfl, ?_⟩
    by_cases e : way = 0
    · rw [if_pos e]
      refine ixL_go (v := strV m0) (SqL.of h3) (by decide) rfl ?_
      refine ⟨sc, ns, _, _, rfl, hS3, hl, by decide, by decide, by decide, fun r hr0 hr1 => ?_⟩
      refine mulS_go hr0 (by omega) (addS_go (by rw [List.length_replicate]; omega) ?_)
      refine ⟨sc, ns, _, _, rfl, hS3, hl, by decide, by decide, by omega, fun r2 h20 h21 => ⟨_, rfl, ?_⟩⟩
      refine ixABC_go (i := 1 + r2) (by omega) (by omega) (addS_go (by rw [List.length_append, List.length_replicate]; simp only [List.length_cons, List.length_nil]; omega) ⟨_, h3, 1, rfl, ?_⟩)
      refine main _ (m0 ++ List.replicate r.toNat 97 ++ [97 + (1 + r2).toNat]) (s3.set hp0) upd_same (mark_snoc (M0.ls.app (ls_rep (by omega) (by omega))) (by omega) (by omega)) ?_
      rw [List.length_append, List.length_append, List.length_replicate]
      simp only [List.length_cons, List.length_nil]
      omega
    · rw [if_neg e]
      exact main _ _ s3 h3 M1 (by omega)
  intro H4 m1 s4 h4 M1 z1
  refine hc _ _ ?_
  clear hc c
  have hS4 := s4.seq hS
  refine seq_any fun c hc => ?_
  suffices main : ∀ H4 m1, Same H H4 → H4 p = some (.lst [strV m0, strV m1]) → Mark L m1 → m1.length ≤ 200 → c [some (.ref sc), some (.int L), some (.str (txt ABC)), some (.ref p), some (.int way)] H4 by
    simp only [gSub, rSetL, tCompSet,tRaise,tIsi,tSeq,tAsg,gName,tOp,tUn,tVar,tC,tTest,tB,tIf,tIfS,tAnd,tOr,tNot,tAndV,tOrV,tNotV,tRet,tRetN,tNext,tDrop,tCB,tCons,tNil,tBM,tBM0,tCall,tLst,tTup,tSl,tPart,tNoPart,tIsN,tNotN,tYes,tBreak,tCont,rI0,rI,rU,rEq,rNe,L2.start,compSt,List.map_cons,List.map_nil,List.length_cons,List.length_nil,List.replicate_succ,List.replicate_zero,List.cons_append,List.nil_append,List.append_nil,List.getElem?_cons_zero,List.getElem?_cons_succ,List.set_cons_zero,List.set_cons_succ,Option.some.injEq,Option.join_some,V.int.injEq,V.str.injEq,V.bl.injEq,V.ref.injEq,txt_inj,exists_eq_left',exists_eq_left,exists_and_left,and_true,true_and,decide_eq_true_eq,reduceCtorEq,decide_false,decide_true,Bool.not_false,Bool.not_true,if_true,if_false,Bool.false_eq_true,Nat.reduceAdd,Nat.reduceSub,Bool.not_eq_true',decide_eq_false_iff_not,not_true_eq_false,not_false_eq_true]
    refine ⟨rfl, ?_⟩
    by_cases e : way = 1
    · rw [if_pos e]
      refine ixL_go (v := strV m0) (SqL.of h4) (by decide) rfl ?_
      refine ixL_go (v := strV m1) (SqL.of h4) (by decide) rfl ?_
      refine addS_go (by omega) ?_
      refine ⟨_, h4, 1, rfl, ?_⟩
      exact main _ (m0 ++ m1) (s4.set hp0) upd_same (mark_app M0.ls M1) (by rw [List.length_append]; omega)
    · rw [if_neg e]
      exact main _ _ s4 h4 M1 (by omega)
  clear h3 s3 hS3 h4 s4 hS4 z1 M1
  intro H4 m1 s4 h4 M1 z1
  refine hc _ _ ?_
  clear hc c
  have hS4 := s4.seq hS
  refine seq_any fun c hc => ?_
  suffices main : ∀ H4 m1, Same H H4 → H4 p = some (.lst [strV m0, strV m1]) → Mark L m1 → m1.length ≤ 300 → c [some (.ref sc), some (.int L), some (.str (txt ABC)), some (.ref p), some (.int way)] H4 by
    simp only [gSub, rSetL, tCompSet,tRaise,tIsi,tSeq,tAsg,gName,tOp,tUn,tVar,tC,tTest,tB,tIf,tIfS,tAnd,tOr,tNot,tAndV,tOrV,tNotV,tRet,tRetN,tNext,tDrop,tCB,tCons,tNil,tBM,tBM0,tCall,tLst,tTup,tSl,tPart,tNoPart,tIsN,tNotN,tYes,tBreak,tCont,rI0,rI,rU,rEq,rNe,L2.start,compSt,List.map_cons,List.map_nil,List.length_cons,List.length_nil,List.replicate_succ,List.replicate_zero,List.cons_append,List.nil_append,List.append_nil,List.getElem?_cons_zero,List.getElem?_cons_succ,List.set_cons_zero,List.set_cons_succ,Option.some.injEq,Option.join_some,V.int.injEq,V.str.injEq,V.bl.injEq,V.ref.injEq,txt_inj,exists_eq_left',exists_eq_left,exists_and_left,and_true,true_and,decide_eq_true_eq,reduceCtorEq,decide_false,decide_true,Bool.not_false,Bool.not_true,if_true,if_false,Bool.false_eq_true,Nat.reduceAdd,Nat.reduceSub,Bool.not_eq_true',decide_eq_false_iff_not,not_true_eq_false,not_false_eq_true]
    refine ⟨rfl, ?_⟩
    by_cases e : way = 2
    · rw [if_pos e]
      refine ixL_go (v := strV m0) (SqL.of h4) (by decide) rfl ?_
      refine slS_go (by omega) ?_
      rw [cutL_but]
      have hdl : m0.dropLast.length ≤ 41 := by rw [List.length_dropLast]; omega
      have hdm : Ls L m0.dropLast := M0.ls.sub fun c hc => by rw [List.dropLast_eq_take] at hc; exact List.mem_of_mem_take hc
      refine ⟨sc, ns, _, _, rfl, hS4, hl, by decide, by decide, by decide, fun r hr0 hr1 => ?_⟩
      refine mulS_go hr0 (by omega) (addS_go (by rw [List.length_replicate]; omega) ?_)
      refine addS_go (by rw [List.length_append, List.length_replicate]; simp only [List.length_cons, List.length_nil]; omega) ⟨_, h4, 1, rfl, ?_⟩
      refine main _ (m0.dropLast ++ List.replicate r.toNat 97 ++ [98]) (s4.set hp0) upd_same (mark_snoc (r := 1) (hdm.app (ls_rep (by omega) (by omega))) (by omega) (by omega)) ?_
      rw [List.length_append, List.length_append, List.length_replicate]
      simp only [List.length_cons, List.length_nil]
      omega
    · rw [if_neg e]
      exact main _ _ s4 h4 M1 (by omega)
  clear h4 s4 hS4 z1 M1
  intro H4 m1 s4 h4 M1 z1
  refine hc _ _ ?_
  clear hc c
  have hS4 := s4.seq hS
  have mo0 : MarksOk L none (some m0) := ⟨fun m e => (nomatch e), fun m e => by cases e; exact ⟨M0, by omega⟩⟩
  have m0o : MarksOk L (some m0) none := ⟨fun m e => by cases e; exact ⟨M0, by omega⟩, fun m e => (nomatch e)⟩
  and_intros
  refine ⟨rfl, ?_⟩
  by_cases e3 : way = 3
  · rw [if_pos e3]
    refine ixL_go (v := strV m0) (SqL.of h4) (by decide) rfl ⟨by decide, fun p2 hp2 => ?_⟩
    exact q _ p2 none (some m0) s4 hp2 mo0 (fun l h e => nomatch e)
  rw [if_neg e3]
  refine ⟨rfl, ?_⟩
  by_cases e4 : way = 4
  · rw [if_pos e4]
    refine ixL_go (v := strV m0) (SqL.of h4) (by decide) rfl ⟨by decide, fun p2 hp2 => ?_⟩
    exact q _ p2 (some m0) none s4 hp2 m0o (fun l h _ e => nomatch e)
  rw [if_neg e4]
  refine ⟨rfl, ?_⟩
  by_cases e5 : way = 5
  · rw [if_pos e5]
    refine ⟨sc, ns, _, _, rfl, hS4, hl, by decide, by decide, by decide, fun r hr0 hr1 => ⟨_, rfl, ?_⟩⟩
    refine mulS_go (by omega) (by omega) ⟨by decide, fun p2 hp2 => ?_⟩
    exact q _ p2 none (some (List.replicate (1 + r).toNat 98)) s4 hp2 ⟨fun m e => (nomatch e), fun m e => by cases e; exact ⟨mark_rep hL (by omega), by rw [List.length_replicate]; omega⟩⟩ (fun l h e => nomatch e)
  rw [if_neg e5]
  have fin : 2 ≤ 2 → rMinL2S K [V.ref p] H4 fun x H1 => rMaxL2S K [V.ref p] H1 fun y H2 => 2 ≤ sizeLine ∧ ∀ p2, H2 p2 = none → Q (.ref p2) (upd H2 p2 (.tup [x, y])) := fun _ => by
    refine ⟨p, m0, m1, rfl, SqL.of h4, p, m0, m1, rfl, SqL.of h4, by decide, fun p2 hp2 => ?_⟩
    have hL0 : 0 < L := by omega
    have irr : ∀ x y : List Nat, Mark L x → Mark L y → x.length ≤ 1000 → y.length ≤ 1000 → (x < y ↔ val L x 1000 < val L y 1000) := fun x y mx my zx zy => lt_val hL0 1000 mx.ls my.ls mx.na my.na zx zy
    have i1 := irr m0 m1 M0 M1 (by omega) (by omega)
    have i2 := irr m1 m0 M1 M0 (by omega) (by omega)
    have ok2 : ∀ x y : List Nat, Mark L x → Mark L y → x.length ≤ 1000 → y.length ≤ 1000 → MarksOk L (some x) (some y) := fun x y mx my zx zy => ⟨fun m e => by cases e; exact ⟨mx, zx⟩, fun m e => by cases e; exact ⟨my, zy⟩⟩
    by_cases h1 : m1 < m0
    · have h2 : ¬ m0 < m1 := fun z => by have := i1.mp z; have := i2.mp h1; omega
      rw [if_pos h1, if_neg h2]
      exact q _ p2 (some m1) (some m0) s4 hp2 (ok2 _ _ M1 M0 (by omega) (by omega)) fun l h e1 e2 => by cases e1; cases e2; exact .inl h1
    · rw [if_neg h1]
      by_cases h2 : m0 < m1
      · rw [if_pos h2]
        exact q _ p2 (some m0) (some m1) s4 hp2 (ok2 _ _ M0 M1 (by omega) (by omega)) fun l h e1 e2 => by cases e1; cases e2; exact .inl h2
      · rw [if_neg h2]
        exact q _ p2 (some m0) (some m0) s4 hp2 (ok2 _ _ M0 M0 (by omega) (by omega)) fun l h e1 e2 => by cases e1; cases e2; exact .inr rfl
  refine ⟨rfl, ?_⟩
  by_cases e6 : way = 6
  · rw [if_pos e6]
    refine ⟨sc, ns, _, _, rfl, hS4, hl, by decide, by decide, by decide, fun r hr0 hr1 => ⟨rfl, ?_⟩⟩
    by_cases e7 : V.int r = V.int 0
    · rw [if_pos e7]
      exact ⟨by decide, fun p2 hp2 => q _ p2 none none s4 hp2 ⟨fun m e => (nomatch e), fun m e => (nomatch e)⟩ (fun l h e => nomatch e)⟩
    · rw [if_neg e7]
      exact fin (Nat.le_refl _)
  · rw [if_neg e6]
    exact fin (Nat.le_refl _)
end K41
set_option Elab.async false
set_option linter.all false
set_option maxRecDepth 100000
set_option maxHeartbeats 4000000
namespace L2
open PySem PySem.Spec PyProof.Rows
theorem for_made {K : PySem.W.Frag} {ta : TA} {g : TG} {tb : TS} {D : Ends} {σ : St} {H : Hp} {xs : List V} (ha : ∀ R : List V → Hp → Prop, R xs H → ta σ H R) (hz : xs.length ≤ 1000)
    (k : ∀ p, H p = none → ∃ Pv : Nat → St → Hp → Prop, Pv 0 σ (upd H p (.lst xs)) ∧ (∀ i σ H', i ≤ xs.length → Pv i σ H' → SqL K H' p xs) ∧ (∀ i x σ H, xs[i]? = some x → Pv i σ H → g x σ H fun σ2 H2 => tb { D with nx := Pv (i + 1), ct := Pv (i + 1), bk := D.nx } σ2 H2) ∧ ∀ σ H, Pv xs.length σ H → D.nx σ H) :
    tFor (iList K (tLst ta)) g tb D σ H := by
  refine ha _ ⟨by rw [sizeLine_eq]; omega, fun p hp => ?_⟩
  obtain ⟨Pv, h0, hl, hs, hd⟩ := k p hp
  exact ⟨p, rfl, ⟨xs, SqL.here⟩, for_list (K := K) Pv h0 hl hs hd⟩
end L2
namespace K41
open PySem PySem.Spec PyProof.Rows L2 MM
def rest1 (K : PySem.W.Frag) (a : Ad) : TS := (tSeq (tAsg (tCall (spStem a.c_NoRoom) [] E0 (tCons (tVar 1) (tCons (tVar 2) (tCons (tVar 3) tNil)))) (gName 4))
      (tSeq (tIfS (tOr (tNot (tB (tIsi K "str" (tVar 4)))) (tOr (tTest (tOp rEq (tVar 4) (tC (.str (txt []))))) (tTest (tOp rEq (tOp rIxLast (tVar 4) (tUn rNegI (tC (.int 1)))) (tC (.str (txt [97]))))))) (tRet (tC (.bl false))) (tNext))
      (tSeq (tFor (iStr (tVar 4)) (gName 5) (tIfS (tTest (tOp rNotIn1 (tVar 5) (tSl rSlS (tC (.str (txt ABC))) tNoPart (tPart (tVar 1))))) (tRet (tC (.bl false))) (tNext)))
      (tSeq (tFor (iRng2 (tCons (tC (.int 1)) (tCons (tCB rLenS (tCons (tVar 4) tNil)) tNil))) (gName 6) (tIfS (tTest (tOp rGtI (tOp (rIxT K) (tCall spStems [] E0 (tCons (tVar 1) (tCons (tVar 2) (tCons (tVar 3) (tCons (tVar 6) tNil))))) (tC (.int 1))) (tC (.int 0)))) (tRet (tC (.bl false))) (tNext)))
      (tSeq (tAsg (tCall spStems [] E0 (tCons (tVar 1) (tCons (tVar 2) (tCons (tVar 3) (tCons (tCB rLenS (tCons (tVar 4) tNil)) tNil))))) (gTup K 2 (gCons (gName 7) (gCons (gName 8) gNil))))
      (tSeq (tAsg (tOp rSubI (tOp rSubI (tVar 7) (tC (.int 1))) (tOp rDivI (tOp rSubI (tVar 7) (tC (.int 1))) (tVar 1))) (gName 9))
      (tSeq (tAsg (tCall spLWhole [] E0 (tCons (tVar 1) (tCons (tVar 4) (tCons (tCB rLenS (tCons (tVar 4) tNil)) tNil)))) (gName 10))
      (tSeq (tIfS (tTest (tOp rNe (tOp rSubI (tVar 10) (tOp rDivI (tVar 10) (tVar 1))) (tOp rAddI (tOp rAddI (tVar 9) (tC (.int 1))) (tOp rDivI (tOp rSubI (tVar 8) (tC (.int 1))) (tC (.int 2)))))) (tRet (tC (.bl false))) (tNext))
      (tSeq (tFor (iList K (tLst (tCons (tC (.str (txt []))) (tCons (tC (.str (txt [98]))) (tCons (tOp rMulS (tOp rIxStr (tC (.str (txt ABC))) (tOp rSubI (tVar 1) (tC (.int 1)))) (tC (.int 9))) tNil))))) (gName 11) (tIfS (tOr (tAnd (tB (tNotN (tVar 2))) (tNot (tTest (tOp rLtS (tVar 2) (tOp rAddS (tVar 4) (tVar 11)))))) (tAnd (tB (tNotN (tVar 3))) (tNot (tTest (tOp rLtS (tOp rAddS (tVar 4) (tVar 11)) (tVar 3)))))) (tRet (tC (.bl false))) (tNext)))
      (tRet (tOrV (tIsN (tVar 3)) (tOp rNe (tSl rSlS (tVar 3) tNoPart (tPart (tCB rLenS (tCons (tVar 4) tNil)))) (tVar 4)))))))))))))
theorem read_rest {K : PySem.W.Frag} {a : Ad} {Q : VK} {sc : Addr} {L : Nat} {lo hi : Option (List Nat)} {H : Hp} (hL : 2 ≤ L) (hL26 : L ≤ 26) (M : MarksOk L lo hi) (ok : OkLH lo hi) (q : ∀ H', Q (.bl true) H') :
    rest1 K a { nx := fun _ H' => Q .non H', rt := Q } [some (.ref sc), some (.int L), some (oV lo), some (oV hi), none, none, none, none, none, none, none, none] H := by
  have hL0 : 0 < L := by omega
  have hlen := M.lens
  have E1 := ends_ok (K := L) (h := 1) (j := 0) (by decide) (by omega)
  unfold rest1
  refine seq_set fun c hc => ?_
  and_intros
  refine ⟨L, lo, hi, rfl, hL, hL26, M, fun _ H1 n w m s1 S => hc _ _ ?_, fun z => absurd ok z⟩
  clear hc c
  obtain ⟨Mm, hm, hv, hn, hlo, hhi⟩ := S.all hL M ok
  have hn1 := S.least.pos
  have hz : m.length ≤ 1001 := by omega
  obtain ⟨lc, hlc⟩ : ∃ lc, m.getLast? = some lc := by
    cases e : m.getLast? with
    | none => exact absurd (List.getLast?_eq_none_iff.mp e) Mm.ne
    | some c => exact ⟨c, rfl⟩
  have hlc2 := Mm.na lc hlc
  refine seq_any fun c hc => ?_
  and_intros
  refine isiS_go ⟨_, rfl, ?_⟩
  and_intros
  refine ⟨rfl, ?_⟩
  rw [if_neg Mm.ne]
  refine ⟨m, lc, rfl, rfl, by rw [sizeLine_eq]; omega, hlc, ⟨rfl, ?_⟩⟩
  rw [if_neg (fun z => hlc2 (by simpa [txt_inj] using z))]
  refine hc _ _ ?_
  clear hc c
  refine seq_any fun c hc => ?_
  refine for_s (l := m) (fun Q h => ⟨_, rfl, h⟩) (fun i σ H' => H' = H1 ∧ ∃ v5, σ = [some (.ref sc), some (.int L), some (oV lo), some (oV hi), some (.str (txt m)), v5, none, none, none, none, none, none]) ⟨rfl, _, rfl⟩ ?_ ?_
  · rintro i c σ H5 hc ⟨rfl, v5, rfl⟩
    and_intros
    refine slS_go (by rw [abc_len]; decide) ?_
    rw [cutL_to (by omega) (by rw [abc_len]; omega), Int.toNat_natCast]
    refine ⟨c, _, rfl, rfl, _, rfl, ?_⟩
    rw [decide_eq_true ((mem_abc hL26).mpr (Mm.ls c (List.mem_of_getElem? hc))), if_neg (by decide)]
    exact ⟨rfl, _, rfl⟩
  rintro σ H5 ⟨rfl, v5, rfl⟩
  refine hc _ _ ?_
  clear hc c
  refine seq_any fun c hc => ?_
  refine for_r2 (l := 1) (j := (m.length : Int)) (fun Q h => by and_intros; exact lenS_go (by omega) h) (by omega) (by omega) (by omega) (by omega) (fun i σ H' => Same H H' ∧ ∃ v6, σ = [some (.ref sc), some (.int L), some (oV lo), some (oV hi), some (.str (txt m)), v5, v6, none, none, none, none, none]) ⟨s1, _, rfl⟩ ?_ ?_
  · rintro i σ H6 hi6 ⟨s6, v6, rfl⟩
    and_intros
    refine ⟨L, lo, hi, 1 + i, by rw [Int.natCast_add]; rfl, hL, hL26, M, by omega, by omega, fun H7 p z s7 hp hz7 => ?_⟩
    refine ixT_go SqT.here (by decide) rfl ⟨_, rfl, ?_⟩
    have := hz7.small hL M ok (by omega) (S.least.less (1 + i) (by omega) (by omega))
    rw [if_neg (by omega)]
    exact ⟨(s6.trans s7).new hp, _, rfl⟩
  rintro σ H6 ⟨s6, v6, rfl⟩
  refine hc _ _ ?_
  clear hc c
  refine seq_any fun c hc => ?_
  simp only [gTup, gCons, gNil, tCompSet,tRaise,tIsi,tSeq,tAsg,gName,tOp,tUn,tVar,tC,tTest,tB,tIf,tIfS,tAnd,tOr,tNot,tAndV,tOrV,tNotV,tRet,tRetN,tNext,tDrop,tCB,tCons,tNil,tBM,tBM0,tCall,tLst,tTup,tSl,tPart,tNoPart,tIsN,tNotN,tYes,tBreak,tCont,rI0,rI,rU,rEq,rNe,L2.start,compSt,List.map_cons,List.map_nil,List.length_cons,List.length_nil,List.replicate_succ,List.replicate_zero,List.cons_append,List.nil_append,List.append_nil,List.getElem?_cons_zero,List.getElem?_cons_succ,List.set_cons_zero,List.set_cons_succ,Option.some.injEq,Option.join_some,V.int.injEq,V.str.injEq,V.bl.injEq,V.ref.injEq,txt_inj,exists_eq_left',exists_eq_left,exists_and_left,and_true,true_and,decide_eq_true_eq,reduceCtorEq,decide_false,decide_true,Bool.not_false,Bool.not_true,if_true,if_false,Bool.false_eq_true,Nat.reduceAdd,Nat.reduceSub,Bool.not_eq_true',decide_eq_false_iff_not,not_true_eq_false,not_false_eq_true]
  refine lenS_go (by omega) ?_
  rw [hm]
  refine ⟨L, lo, hi, n, rfl, hL, hL26, M, by omega, by omega, fun H7 p z s7 hp hz7 => ?_⟩
  refine ⟨_, rfl, _, SqT.here, rfl, _, _, rfl, _, [], rfl, rfl, hc _ _ ?_⟩
  clear hc c
  generalize upd H7 p _ = H8
  have hzz := hz7.is hL M hn1 (by have := S.ge; have := S.lt; omega)
  refine seq_set fun c hc => ?_
  and_intros
  refine ⟨cdiv (by omega) (by omega), hc _ _ ?_⟩
  clear hc c
  rw [obI (L := L) (w := loN L lo n) hL (by show 1 ≤ valO L lo n + 1; omega)]
  refine seq_set fun c hc => ?_
  and_intros
  refine lenS_go (by omega) ⟨L, m, m.length, rfl, hL26, Mm.ls.mono hL26, by omega, by omega, hc _ _ ?_⟩
  clear hc c
  rw [hm, hv]
  refine seq_any fun c hc => ?_
  and_intros
  refine ⟨cdiv (by omega) (by omega), cdiv (by decide) (by decide), rfl, ?_⟩
  have ow1 : ((w : Nat) : Int) - ((w : Nat) : Int) / (L : Int) = ((MM.ob L (endsL L 1 0) w : Nat) : Int) + 1 := by
    have := obI (L := L) (w := w + 1) hL (by omega)
    rw [ob_succ hL0 E1, if_pos S.own] at this
    rw [show (((w + 1 : Nat)) : Int) - 1 = (w : Int) by omega] at this
    omega
  have fin : ((w : Nat) : Int) - ((w : Nat) : Int) / (L : Int) = ((MM.ob L (endsL L 1 0) (loN L lo n) : Nat) : Int) + 1 + (z - 1) / 2 := by
    have at_ := S.at_
    rw [← hzz] at at_
    have e : MM.ob L (endsL L 1 0) (loN L lo n) = MM.ob L (endsL L 1 0) (valO L lo n + 1) := rfl
    rw [ow1, e]
    omega
  rw [if_neg (fun x => x fin)]
  refine hc _ _ ?_
  clear hc c
  refine seq_any fun c hc => ?_
  have tails : ∀ t : List Nat, (∀ l, lo = some l → l < m ++ t) ∧ ∀ u, hi = some u → m ++ t < u := fun t => ⟨fun l e => hlo l e t, fun u e => (hhi u e t).1⟩
  obtain ⟨r9, hr9⟩ : ∃ r9, r9 = List.replicate (Int.toNat 9) (97 + ((L : Int) - 1).toNat) := ⟨_, rfl⟩
  have l9 : r9.length = 9 := by rw [hr9, List.length_replicate]; rfl
  refine for_made (xs := [strV [], strV [98], strV r9]) ?ha (by simp) fun p9 hp9 => ⟨fun i σ H' => H' = upd H8 p9 (.lst [strV [], strV [98], strV r9]) ∧ ∃ v11, σ = [some (.ref sc), some (.int L), some (oV lo), some (oV hi), some (.str (txt m)), v5, v6, some (.int (loN L lo n : Nat)), some (.int z), some (.int (MM.ob L (endsL L 1 0) (loN L lo n) : Nat)), some (.int w), v11], ⟨rfl, _, rfl⟩, fun i σ H' _ h => by rw [h.1]; exact SqL.here, ?_, ?_⟩
  case ha =>
    intro R r
    and_intros
    exact ixABC_go (i := (L : Int) - 1) (by omega) (by omega) (mulS_go (by decide) (by decide) (by rw [← hr9]; exact r))
  · rintro i x σ H9 hx ⟨rfl, v11, rfl⟩
    obtain ⟨t, rfl, ht⟩ : ∃ t, x = strV t ∧ t.length ≤ 9 := by
      have := List.mem_of_getElem? hx
      simp only [List.mem_cons, List.not_mem_nil, or_false] at this
      rcases this with e | e | e
      · exact ⟨_, e, by decide⟩
      · exact ⟨_, e, by decide⟩
      · exact ⟨_, e, by omega⟩
    obtain ⟨tl, th⟩ := tails t
    generalize upd H8 p9 _ = HH
    cases lo with
    | none =>
      cases hi with
      | none =>
        simp only [oV, strV, tCompSet,tRaise,tIsi,tSeq,tAsg,gName,tOp,tUn,tVar,tC,tTest,tB,tIf,tIfS,tAnd,tOr,tNot,tAndV,tOrV,tNotV,tRet,tRetN,tNext,tDrop,tCB,tCons,tNil,tBM,tBM0,tCall,tLst,tTup,tSl,tPart,tNoPart,tIsN,tNotN,tYes,tBreak,tCont,rI0,rI,rU,rEq,rNe,L2.start,compSt,List.map_cons,List.map_nil,List.length_cons,List.length_nil,List.replicate_succ,List.replicate_zero,List.cons_append,List.nil_append,List.append_nil,List.getElem?_cons_zero,List.getElem?_cons_succ,List.set_cons_zero,List.set_cons_succ,Option.some.injEq,Option.join_some,V.int.injEq,V.str.injEq,V.bl.injEq,V.ref.injEq,txt_inj,exists_eq_left',exists_eq_left,exists_and_left,and_true,true_and,decide_eq_true_eq,reduceCtorEq,decide_false,decide_true,Bool.not_false,Bool.not_true,if_true,if_false,Bool.false_eq_true,Nat.reduceAdd,Nat.reduceSub,Bool.not_eq_true',decide_eq_false_iff_not,not_true_eq_false,not_false_eq_true]
        exact ⟨_, rfl⟩
      | some u =>
        simp only [oV, strV, tCompSet,tRaise,tIsi,tSeq,tAsg,gName,tOp,tUn,tVar,tC,tTest,tB,tIf,tIfS,tAnd,tOr,tNot,tAndV,tOrV,tNotV,tRet,tRetN,tNext,tDrop,tCB,tCons,tNil,tBM,tBM0,tCall,tLst,tTup,tSl,tPart,tNoPart,tIsN,tNotN,tYes,tBreak,tCont,rI0,rI,rU,rEq,rNe,L2.start,compSt,List.map_cons,List.map_nil,List.length_cons,List.length_nil,List.replicate_succ,List.replicate_zero,List.cons_append,List.nil_append,List.append_nil,List.getElem?_cons_zero,List.getElem?_cons_succ,List.set_cons_zero,List.set_cons_succ,Option.some.injEq,Option.join_some,V.int.injEq,V.str.injEq,V.bl.injEq,V.ref.injEq,txt_inj,exists_eq_left',exists_eq_left,exists_and_left,and_true,true_and,decide_eq_true_eq,reduceCtorEq,decide_false,decide_true,Bool.not_false,Bool.not_true,if_true,if_false,Bool.false_eq_true,Nat.reduceAdd,Nat.reduceSub,Bool.not_eq_true',decide_eq_false_iff_not,not_true_eq_false,not_false_eq_true]
        refine addS_go (by omega) ⟨_, _, rfl, rfl, ⟨_, rfl, ?_⟩⟩
        rw [decide_eq_true (th u rfl)]
        and_intros
        exact ⟨_, rfl⟩
    | some l =>
      cases hi with
      | none =>
        simp only [oV, strV, tCompSet,tRaise,tIsi,tSeq,tAsg,gName,tOp,tUn,tVar,tC,tTest,tB,tIf,tIfS,tAnd,tOr,tNot,tAndV,tOrV,tNotV,tRet,tRetN,tNext,tDrop,tCB,tCons,tNil,tBM,tBM0,tCall,tLst,tTup,tSl,tPart,tNoPart,tIsN,tNotN,tYes,tBreak,tCont,rI0,rI,rU,rEq,rNe,L2.start,compSt,List.map_cons,List.map_nil,List.length_cons,List.length_nil,List.replicate_succ,List.replicate_zero,List.cons_append,List.nil_append,List.append_nil,List.getElem?_cons_zero,List.getElem?_cons_succ,List.set_cons_zero,List.set_cons_succ,Option.some.injEq,Option.join_some,V.int.injEq,V.str.injEq,V.bl.injEq,V.ref.injEq,txt_inj,exists_eq_left',exists_eq_left,exists_and_left,and_true,true_and,decide_eq_true_eq,reduceCtorEq,decide_false,decide_true,Bool.not_false,Bool.not_true,if_true,if_false,Bool.false_eq_true,Nat.reduceAdd,Nat.reduceSub,Bool.not_eq_true',decide_eq_false_iff_not,not_true_eq_false,not_false_eq_true]
        refine addS_go (by omega) ⟨_, _, rfl, rfl, ⟨_, rfl, ?_⟩⟩
        rw [decide_eq_true (tl l rfl)]
        and_intros
        exact ⟨_, rfl⟩
      | some u =>
        simp only [oV, strV, tCompSet,tRaise,tIsi,tSeq,tAsg,gName,tOp,tUn,tVar,tC,tTest,tB,tIf,tIfS,tAnd,tOr,tNot,tAndV,tOrV,tNotV,tRet,tRetN,tNext,tDrop,tCB,tCons,tNil,tBM,tBM0,tCall,tLst,tTup,tSl,tPart,tNoPart,tIsN,tNotN,tYes,tBreak,tCont,rI0,rI,rU,rEq,rNe,L2.start,compSt,List.map_cons,List.map_nil,List.length_cons,List.length_nil,List.replicate_succ,List.replicate_zero,List.cons_append,List.nil_append,List.append_nil,List.getElem?_cons_zero,List.getElem?_cons_succ,List.set_cons_zero,List.set_cons_succ,Option.some.injEq,Option.join_some,V.int.injEq,V.str.injEq,V.bl.injEq,V.ref.injEq,txt_inj,exists_eq_left',exists_eq_left,exists_and_left,and_true,true_and,decide_eq_true_eq,reduceCtorEq,decide_false,decide_true,Bool.not_false,Bool.not_true,if_true,if_false,Bool.false_eq_true,Nat.reduceAdd,Nat.reduceSub,Bool.not_eq_true',decide_eq_false_iff_not,not_true_eq_false,not_false_eq_true]
        refine addS_go (by omega) ⟨_, _, rfl, rfl, ⟨_, rfl, ?_⟩⟩
        rw [decide_eq_true (tl l rfl)]
        and_intros
        refine addS_go (by omega) ⟨_, _, rfl, rfl, ⟨_, rfl, ?_⟩⟩
        rw [decide_eq_true (th u rfl)]
        and_intros
        exact ⟨_, rfl⟩
  · rintro σ H9 ⟨rfl, v11, rfl⟩
    refine hc _ _ ?_
    generalize upd H8 p9 _ = HH
    cases hi with
    | none =>
      simp only [oV, tCompSet,tRaise,tIsi,tSeq,tAsg,gName,tOp,tUn,tVar,tC,tTest,tB,tIf,tIfS,tAnd,tOr,tNot,tAndV,tOrV,tNotV,tRet,tRetN,tNext,tDrop,tCB,tCons,tNil,tBM,tBM0,tCall,tLst,tTup,tSl,tPart,tNoPart,tIsN,tNotN,tYes,tBreak,tCont,rI0,rI,rU,rEq,rNe,L2.start,compSt,List.map_cons,List.map_nil,List.length_cons,List.length_nil,List.replicate_succ,List.replicate_zero,List.cons_append,List.nil_append,List.append_nil,List.getElem?_cons_zero,List.getElem?_cons_succ,List.set_cons_zero,List.set_cons_succ,Option.some.injEq,Option.join_some,V.int.injEq,V.str.injEq,V.bl.injEq,V.ref.injEq,txt_inj,exists_eq_left',exists_eq_left,exists_and_left,and_true,true_and,decide_eq_true_eq,reduceCtorEq,decide_false,decide_true,Bool.not_false,Bool.not_true,if_true,if_false,Bool.false_eq_true,Nat.reduceAdd,Nat.reduceSub,Bool.not_eq_true',decide_eq_false_iff_not,not_true_eq_false,not_false_eq_true]
      exact q _
    | some u =>
      obtain ⟨mu, zu⟩ := M.mhi u rfl
      simp only [oV, tCompSet,tRaise,tIsi,tSeq,tAsg,gName,tOp,tUn,tVar,tC,tTest,tB,tIf,tIfS,tAnd,tOr,tNot,tAndV,tOrV,tNotV,tRet,tRetN,tNext,tDrop,tCB,tCons,tNil,tBM,tBM0,tCall,tLst,tTup,tSl,tPart,tNoPart,tIsN,tNotN,tYes,tBreak,tCont,rI0,rI,rU,rEq,rNe,L2.start,compSt,List.map_cons,List.map_nil,List.length_cons,List.length_nil,List.replicate_succ,List.replicate_zero,List.cons_append,List.nil_append,List.append_nil,List.getElem?_cons_zero,List.getElem?_cons_succ,List.set_cons_zero,List.set_cons_succ,Option.some.injEq,Option.join_some,V.int.injEq,V.str.injEq,V.bl.injEq,V.ref.injEq,txt_inj,exists_eq_left',exists_eq_left,exists_and_left,and_true,true_and,decide_eq_true_eq,reduceCtorEq,decide_false,decide_true,Bool.not_false,Bool.not_true,if_true,if_false,Bool.false_eq_true,Nat.reduceAdd,Nat.reduceSub,Bool.not_eq_true',decide_eq_false_iff_not,not_true_eq_false,not_false_eq_true]
      refine lenS_go (by omega) ⟨_, rfl, slS_go (by omega) ⟨rfl, ?_⟩⟩
      have ne : cutL u none (some (m.length : Int)) ≠ m := by
        by_cases h1 : m.length ≤ u.length
        · rw [cutL_to (by omega) (by omega), Int.toNat_natCast, hm]
          exact (hhi u rfl []).2
        · intro e
          have := cutL_length u none (some (m.length : Int))
          rw [e] at this
          omega
      rw [decide_eq_false (fun e => ne (by simpa [txt_inj] using e))]
      exact q _
theorem read_law {K : PySem.W.Frag} {a : Ad} {N : List Str} {vs : List V} {H : Hp} {Q : VK} {E : XK} (hN : N.length = 12) (h : spLaw K vs H Q E) : rd_law K a { nx := fun _ H' => Q .non H', rt := Q } (L2.start N vs) H := by
  obtain ⟨sc, ns, rfl, hS, hl, q⟩ := h
  unfold rd_law L2.start
  rw [hN]
  refine seq_set fun c hc => ?_
  and_intros
  refine ⟨sc, ns, rfl, hS, hl, fun H1 L s1 hL hL26 => hc _ _ ?_⟩
  clear hc c
  refine seq_any fun c hc => ?_
  simp only [gTup, gCons, gNil, tCompSet,tRaise,tIsi,tSeq,tAsg,gName,tOp,tUn,tVar,tC,tTest,tB,tIf,tIfS,tAnd,tOr,tNot,tAndV,tOrV,tNotV,tRet,tRetN,tNext,tDrop,tCB,tCons,tNil,tBM,tBM0,tCall,tLst,tTup,tSl,tPart,tNoPart,tIsN,tNotN,tYes,tBreak,tCont,rI0,rI,rU,rEq,rNe,L2.start,compSt,List.map_cons,List.map_nil,List.length_cons,List.length_nil,List.replicate_succ,List.replicate_zero,List.cons_append,List.nil_append,List.append_nil,List.getElem?_cons_zero,List.getElem?_cons_succ,List.set_cons_zero,List.set_cons_succ,Option.some.injEq,Option.join_some,V.int.injEq,V.str.injEq,V.bl.injEq,V.ref.injEq,txt_inj,exists_eq_left',exists_eq_left,exists_and_left,and_true,true_and,decide_eq_true_eq,reduceCtorEq,decide_false,decide_true,Bool.not_false,Bool.not_true,if_true,if_false,Bool.false_eq_true,Nat.reduceAdd,Nat.reduceSub,Bool.not_eq_true',decide_eq_false_iff_not,not_true_eq_false,not_false_eq_true]
  refine ⟨sc, ns, L, rfl, s1.seq hS, hl, hL, hL26, fun H2 p lo hi s2 hp M le => ?_⟩
  refine ⟨_, rfl, _, SqT.here, rfl, _, _, rfl, _, [], rfl, rfl, hc _ _ ?_⟩
  clear hc c
  generalize upd H2 p _ = H3
  have rest := fun (H4 : Hp) (ok : OkLH lo hi) => read_rest (K := K) (a := a) (Q := Q) (sc := sc) (H := H4) hL hL26 M ok q
  refine seq_any fun c hc => ?_
  suffices main : ∀ H4, OkLH lo hi → c [some (.ref sc), some (.int L), some (oV lo), some (oV hi), none, none, none, none, none, none, none, none] H4 by
    have hL0 : 0 < L := by omega
    have irr : ∀ x y : List Nat, Mark L x → Mark L y → x.length ≤ 1000 → y.length ≤ 1000 → (x < y ↔ val L x 1000 < val L y 1000) := fun x y mx my zx zy => lt_val hL0 1000 mx.ls my.ls mx.na my.na zx zy
    cases lo with
    | none =>
      simp only [oV, tCompSet,tRaise,tIsi,tSeq,tAsg,gName,tOp,tUn,tVar,tC,tTest,tB,tIf,tIfS,tAnd,tOr,tNot,tAndV,tOrV,tNotV,tRet,tRetN,tNext,tDrop,tCB,tCons,tNil,tBM,tBM0,tCall,tLst,tTup,tSl,tPart,tNoPart,tIsN,tNotN,tYes,tBreak,tCont,rI0,rI,rU,rEq,rNe,L2.start,compSt,List.map_cons,List.map_nil,List.length_cons,List.length_nil,List.replicate_succ,List.replicate_zero,List.cons_append,List.nil_append,List.append_nil,List.getElem?_cons_zero,List.getElem?_cons_succ,List.set_cons_zero,List.set_cons_succ,Option.some.injEq,Option.join_some,V.int.injEq,V.str.injEq,V.bl.injEq,V.ref.injEq,txt_inj,exists_eq_left',exists_eq_left,exists_and_left,and_true,true_and,decide_eq_true_eq,reduceCtorEq,decide_false,decide_true,Bool.not_false,Bool.not_true,if_true,if_false,Bool.false_eq_true,Nat.reduceAdd,Nat.reduceSub,Bool.not_eq_true',decide_eq_false_iff_not,not_true_eq_false,not_false_eq_true]
      exact main _ (fun l h e => nomatch e)
    | some l =>
      cases hi with
      | none =>
        simp only [oV, tCompSet,tRaise,tIsi,tSeq,tAsg,gName,tOp,tUn,tVar,tC,tTest,tB,tIf,tIfS,tAnd,tOr,tNot,tAndV,tOrV,tNotV,tRet,tRetN,tNext,tDrop,tCB,tCons,tNil,tBM,tBM0,tCall,tLst,tTup,tSl,tPart,tNoPart,tIsN,tNotN,tYes,tBreak,tCont,rI0,rI,rU,rEq,rNe,L2.start,compSt,List.map_cons,List.map_nil,List.length_cons,List.length_nil,List.replicate_succ,List.replicate_zero,List.cons_append,List.nil_append,List.append_nil,List.getElem?_cons_zero,List.getElem?_cons_succ,List.set_cons_zero,List.set_cons_succ,Option.some.injEq,Option.join_some,V.int.injEq,V.str.injEq,V.bl.injEq,V.ref.injEq,txt_inj,exists_eq_left',exists_eq_left,exists_and_left,and_true,true_and,decide_eq_true_eq,reduceCtorEq,decide_false,decide_true,Bool.not_false,Bool.not_true,if_true,if_false,Bool.false_eq_true,Nat.reduceAdd,Nat.reduceSub,Bool.not_eq_true',decide_eq_false_iff_not,not_true_eq_false,not_false_eq_true]
        exact main _ (fun l h _ e => nomatch e)
      | some u =>
        obtain ⟨ml, zl⟩ := M.mlo l rfl
        obtain ⟨mu, zu⟩ := M.mhi u rfl
        have hle := le l u rfl rfl
        have no : ¬ OkLH (some u) (some l) := fun ok => by
          have h1 := (irr u l mu ml zu zl).mp (ok u l rfl rfl)
          rcases hle with h2 | rfl
          · have h2 := (irr l u ml mu zl zu).mp h2
            omega
          · omega
        simp only [oV, tCompSet,tRaise,tIsi,tSeq,tAsg,gName,tOp,tUn,tVar,tC,tTest,tB,tIf,tIfS,tAnd,tOr,tNot,tAndV,tOrV,tNotV,tRet,tRetN,tNext,tDrop,tCB,tCons,tNil,tBM,tBM0,tCall,tLst,tTup,tSl,tPart,tNoPart,tIsN,tNotN,tYes,tBreak,tCont,rI0,rI,rU,rEq,rNe,L2.start,compSt,List.map_cons,List.map_nil,List.length_cons,List.length_nil,List.replicate_succ,List.replicate_zero,List.cons_append,List.nil_append,List.append_nil,List.getElem?_cons_zero,List.getElem?_cons_succ,List.set_cons_zero,List.set_cons_succ,Option.some.injEq,Option.join_some,V.int.injEq,V.str.injEq,V.bl.injEq,V.ref.injEq,txt_inj,exists_eq_left',exists_eq_left,exists_and_left,and_true,true_and,decide_eq_true_eq,reduceCtorEq,decide_false,decide_true,Bool.not_false,Bool.not_true,if_true,if_false,Bool.false_eq_true,Nat.reduceAdd,Nat.reduceSub,Bool.not_eq_true',decide_eq_false_iff_not,not_true_eq_false,not_false_eq_true]
        refine ⟨L, some u, some l, rfl, hL, hL26, ⟨fun m e => by cases e; exact ⟨mu, zu⟩, fun m e => by cases e; exact ⟨ml, zl⟩⟩, no, fun H5 s5 => ⟨_, rfl, ?_⟩⟩
        and_intros
        refine ⟨rfl, ?_⟩
        by_cases e : l = u
        · rw [if_pos e]
          exact q _
        · rw [if_neg e]
          exact main _ fun l' u' e1 e2 => by cases e1; cases e2; exact hle.resolve_right e
  intro H4 ok
  refine hc _ _ ?_
  exact rest H4 ok
end K41
set_option Elab.async false
set_option linter.all false
set_option maxRecDepth 100000
set_option maxHeartbeats 4000000
def PySem.W.Fast.tw2721151601709768713 : Nat := 0
def PySem.W.Fast.tw12777903966560655034 : Nat := 0
def PySem.W.Fast.tw10637642353039962897 : Nat := 0
def PySem.W.Fast.tw2874034915509297823 : Nat := 0
def PySem.W.Fast.tw17525531188439613192 : Nat := 0
def PySem.W.Fast.tw6611517030792160015 : Nat := 0
def PySem.W.Fast.tw11022328027123563280 : Nat := 0
def PySem.W.Fast.tw6005699286183656772 : Nat := 0
namespace K41
open PySem PySem.Spec PyProof.Rows L2 MM
section
variable {P : Program} {w : World} {K : PySem.W.Frag} {mg : Str → Option Value} {base : Heap} {a : Ad}
theorem ok_p21 (T : Tx K mg a) : FnOk P w K mg base CX0 1 a.f_p21 a.fd_p21 ["letters", "long"] spPower :=
  T.F_p21.okQ sc_p21 (fun _ _ _ _ ⟨_, _, e, _⟩ => by rw [e]; rfl) (fun _ _ _ _ _ _ hr => pr_p21 T  hr) fun _ _ _ _ h => read_power rfl h
theorem ok_p12 (T : Tx K mg a) : FnOk P w K mg base CX0 1 a.f_p12 a.fd_p12 ["mark", "place"] spFig :=
  T.F_p12.okQ sc_p12 (fun _ _ _ _ ⟨_, _, e, _⟩ => by rw [e]; rfl) (fun _ _ _ _ _ _ hr => pr_p12 T  hr) fun _ _ _ _ h => read_fig rfl h
theorem ok_p23 (T : Tx K mg a) : FnOk P w K mg base CX0 2 a.f_p23 a.fd_p23 ["letters", "mark", "long"] spWhole :=
  T.F_p23.okQ sc_p23 (fun _ _ _ _ ⟨_, _, _, e, _⟩ => by rw [e]; rfl) (fun _ _ _ _ _ _ hr => pr_p23 T (ok_p12 T) hr) fun _ _ _ _ h => read_whole rfl h
theorem ok_p16 (T : Tx K mg a) : FnOk P w K mg base CX0 1 a.f_p16 a.fd_p16 ["letters", "number", "long"] spMarkOf :=
  T.F_p16.okQ sc_p16 (fun _ _ _ _ ⟨_, _, _, e, _⟩ => by rw [e]; rfl) (fun _ _ _ _ _ _ hr => pr_p16 T  hr) fun _ _ _ _ h => read_markOf rfl h
theorem ok_p11 (T : Tx K mg a) : FnOk P w K mg base CX0 1 a.f_p11 a.fd_p11 ["letters", "hands", "hand"] spEnds :=
  T.F_p11.okQ sc_p11 (fun _ _ _ _ ⟨_, _, _, e, _⟩ => by rw [e]; rfl) (fun _ _ _ _ _ _ hr => pr_p11 T  hr) fun _ _ _ _ h => read_ends rfl h
theorem ok_p9 (T : Tx K mg a) : FnOk P w K mg base (CX1 P w) 1 a.f_p9 a.fd_p9 ["low", "high"] (spAskRoom a.c_NoRoom) :=
  T.F_p9.okX sc_p9 (fun _ _ _ _ ⟨_, _, e, _⟩ => by rw [e]; rfl) (fun _ _ _ _ _ _ hr => pr_p9 T  hr) fun _ _ _ _ h => read_askRoom rfl h
theorem ok_p13 (T : Tx K mg a) : FnOk P w K mg base CX0 3 a.f_p13 a.fd_p13 ["letters", "high", "long"] spHigh :=
  T.F_p13.okQ sc_p13 (fun _ _ _ _ ⟨_, _, _, e, _⟩ => by rw [e]; rfl) (fun _ _ _ _ _ _ hr => pr_p13 T (ok_p21 T) (ok_p23 T) hr) fun _ _ _ _ h => read_high rfl h
theorem ok_p19 (T : Tx K mg a) : FnOk P w K mg base CX0 1 a.f_p19 a.fd_p19 ["letters", "ends", "number"] spBelow :=
  T.F_p19.okQ sc_p19 (fun _ _ _ _ ⟨_, _, _, e, _⟩ => by rw [e]; rfl) (fun _ _ _ _ _ _ hr => pr_p19 T  hr) fun _ _ _ _ h => read_below rfl h
theorem ok_p20 (T : Tx K mg a) : FnOk P w K mg base CX0 2 a.f_p20 a.fd_p20 ["letters", "ends", "low_whole"] spUpLow :=
  T.F_p20.okQ sc_p20 (fun _ _ _ _ ⟨_, _, _, e, _⟩ => by rw [e]; rfl) (fun _ _ _ _ _ _ hr => pr_p20 T (ok_p19 T) hr) fun _ _ _ _ h => read_upLow rfl h
theorem ok_p18 (T : Tx K mg a) : FnOk P w K mg base CX0 2 a.f_p18 a.fd_p18 ["letters", "ends", "high", "high_whole", "long", "beginnings"] spAhead :=
  T.F_p18.okQ sc_p18 (fun _ _ _ _ ⟨_, _, _, _, _, _, e, _⟩ => by rw [e]; rfl) (fun _ _ _ _ _ _ hr => pr_p18 T (ok_p19 T) hr) fun _ _ _ _ h => read_ahead rfl h
theorem ok_p10 (T : Tx K mg a) : FnOk P w K mg base CX0 4 a.f_p10 a.fd_p10 ["letters", "ends", "low", "high", "long", "beginnings"] spCounted :=
  T.F_p10.okQ sc_p10 (fun _ _ _ _ ⟨_, _, _, _, _, _, e, _⟩ => by rw [e]; rfl) (fun _ _ _ _ _ _ hr => pr_p10 T (ok_p23 T) (ok_p13 T) (ok_p18 T) (ok_p20 T) hr) fun _ _ _ _ h => read_counted rfl h
theorem ok_p17 (T : Tx K mg a) : FnOk P w K mg base (CX1 P w) 3 a.f_p17 a.fd_p17 ["letters", "hands", "hand", "low", "high", "long", "number"] (spNth a.c_NoRoom) :=
  T.F_p17.okX sc_p17 (fun _ _ _ _ ⟨_, _, _, _, _, _, _, e, _⟩ => by rw [e]; rfl) (fun _ _ _ _ _ _ hr => pr_p17 T (ok_p9 T) (ok_p11 T) (ok_p23 T) (ok_p20 T) (ok_p16 T) hr) fun _ _ _ _ h => read_nth rfl h
theorem ok_p15 (T : Tx K mg a) : FnOk P w K mg base CX0 4 a.f_p15 a.fd_p15 ["letters", "ends", "low", "high", "many", "beginnings"] spLeastC :=
  T.F_p15.okQ sc_p15 (fun _ _ _ _ ⟨_, _, _, _, _, _, e, _⟩ => by rw [e]; rfl) (fun _ _ _ _ _ _ hr => pr_p15 T (ok_p13 T) (ok_p12 T) (ok_p18 T) (ok_p20 T) hr) fun _ _ _ _ h => read_leastC rfl h
theorem ok_p22 (T : Tx K mg a) : FnOk P w K mg base (CX1 P w) 5 a.f_p22 a.fd_p22 ["letters", "low", "high"] (spStem a.c_NoRoom) :=
  T.F_p22.okX sc_p22 (fun _ _ _ _ ⟨_, _, _, e, _⟩ => by rw [e]; rfl) (fun _ _ _ _ _ _ hr => pr_p22 T (ok_p9 T) (ok_p11 T) (ok_p15 T) (ok_p10 T) (ok_p17 T) hr) fun _ _ _ _ h => read_stem rfl h
theorem ok_draw (T : Tx K mg a) : FnOk P w K mg base CX0 1 a.f_draw a.fd_draw ["_law_script", "_law_k", "_law_many"] (spDraw K) :=
  T.F_draw.okQ sc_draw (fun _ _ _ _ ⟨_, _, _, _, e, _⟩ => by rw [e]; rfl) (fun _ _ _ _ _ _ hr => pr_draw T  hr) fun _ _ _ _ h => read_draw2 rfl h
theorem ok_letters (T : Tx K mg a) : FnOk P w K mg base CX0 2 a.f_letters a.fd_letters ["_law_script"] (spLetters K) :=
  T.F_letters.okQ sc_letters (fun _ _ _ _ ⟨_, _, e, _⟩ => by rw [e]; rfl) (fun _ _ _ _ _ _ hr => pr_letters T (ok_draw T) hr) fun _ _ _ _ h => read_letters rfl h
theorem ok_l_power (T : Tx K mg a) : FnOk P w K mg base CX0 1 a.f_l_power a.fd_l_power ["_law_letters_here", "_law_long"] spPower :=
  T.F_l_power.okQ sc_l_power (fun _ _ _ _ ⟨_, _, e, _⟩ => by rw [e]; rfl) (fun _ _ _ _ _ _ hr => pr_l_power T  hr) fun _ _ _ _ h => read_power rfl h
theorem ok_whole (T : Tx K mg a) : FnOk P w K mg base CX0 1 a.f_whole a.fd_whole ["_law_letters_here", "_law_mark_here", "_law_long"] spLWhole :=
  T.F_whole.okQ sc_whole (fun _ _ _ _ ⟨_, _, _, e, _⟩ => by rw [e]; rfl) (fun _ _ _ _ _ _ hr => pr_whole T  hr) fun _ _ _ _ h => read_lwhole rfl h
theorem ok_span (T : Tx K mg a) : FnOk P w K mg base CX0 2 a.f_span a.fd_span ["_law_letters_here", "_law_low", "_law_high", "_law_long"] spSpan :=
  T.F_span.okQ sc_span (fun _ _ _ _ ⟨_, _, _, _, e, _⟩ => by rw [e]; rfl) (fun _ _ _ _ _ _ hr => pr_span T (ok_whole T) (ok_l_power T) hr) fun _ _ _ _ h => read_span rfl h
theorem ok_mark (T : Tx K mg a) : FnOk P w K mg base CX0 2 a.f_mark a.fd_mark ["_law_script", "_law_base", "_law_letters_here"] (spMark41 K) :=
  T.F_mark.okQ sc_mark (fun _ _ _ _ ⟨_, _, _, _, e, _⟩ => by rw [e]; rfl) (fun _ _ _ _ _ _ hr => pr_mark T (ok_draw T) hr) fun _ _ _ _ h => read_mark41 rfl h
theorem ok_refused (T : Tx K mg a) : FnOk P w K mg base CX0 6 a.f_refused a.fd_refused ["_law_letters_here", "_law_low", "_law_high"] spRefused :=
  T.F_refused.okQ sc_refused (fun _ _ _ _ ⟨_, _, _, e, _⟩ => by rw [e]; rfl) (fun _ _ _ _ _ _ hr => pr_refused T (ok_p22 T) hr) fun _ _ _ _ h => read_refused T rfl h
theorem ok_pair (T : Tx K mg a) : FnOk P w K mg base CX0 3 a.f_pair a.fd_pair ["_law_script", "_law_letters_here"] (spPair K) :=
  T.F_pair.okQ sc_pair (fun _ _ _ _ ⟨_, _, _, e, _⟩ => by rw [e]; rfl) (fun _ _ _ _ _ _ hr => pr_pair T (ok_mark T) (ok_draw T) hr) fun _ _ _ _ h => read_pair rfl h
theorem ok_stems (T : Tx K mg a) : FnOk P w K mg base CX0 3 a.f_stems a.fd_stems ["_law_letters_here", "_law_low", "_law_high", "_law_long"] spStems :=
  T.F_stems.okQ sc_stems (fun _ _ _ _ ⟨_, _, _, _, e, _⟩ => by rw [e]; rfl) (fun _ _ _ _ _ _ hr => pr_stems T (ok_span T) hr) fun _ _ _ _ h => read_stems rfl h
theorem ok_law (T : Tx K mg a) : FnOk P w K mg base CX0 7 a.f_law a.fd_law ["_law_script"] (spLaw K) :=
  T.F_law.okQ sc_law (fun _ _ _ _ ⟨_, _, e, _⟩ => by rw [e]; rfl) (fun _ _ _ _ _ _ hr => pr_law T (ok_letters T) (ok_pair T) (ok_refused T) (ok_p22 T) (ok_stems T) (ok_whole T) hr) fun _ _ _ _ h => read_law rfl h
end
theorem tx_mk {K : PySem.W.Frag} {h : Heap} {mg : Str → Option Value} (X : K.In h) (G : h.Ns mainGlobals mg)
    {f_p21 : Addr} {od_p21 an_p21 : Option Addr} {sl_p21 : Array (Option Value)} {oc_p21 kV_p21 dc_p21 pm_p21 cd_p21 ct_p21 : Value}
    (a_p21 : PySem.W.nsIn K mainGlobals "power" = some (some (.ref f_p21))) (l_p21 : K.lookup f_p21 = some ⟨oc_p21, od_p21, .func (PySem.W.fnOf "power" "power" (defArgs s_p21) (defBody s_p21) (defScope s_p21) .none kV_p21 dc_p21 pm_p21 an_p21 cd_p21 ct_p21), sl_p21⟩) (c_p21 : PySem.W.codeIn K cd_p21 "power" = true) (k_p21 : PySem.W.keepIn K (.ref f_p21) = true)
    {f_p12 : Addr} {od_p12 an_p12 : Option Addr} {sl_p12 : Array (Option Value)} {oc_p12 kV_p12 dc_p12 pm_p12 cd_p12 ct_p12 : Value}
    (a_p12 : PySem.W.nsIn K mainGlobals "figure_at" = some (some (.ref f_p12))) (l_p12 : K.lookup f_p12 = some ⟨oc_p12, od_p12, .func (PySem.W.fnOf "figure_at" "figure_at" (defArgs s_p12) (defBody s_p12) (defScope s_p12) .none kV_p12 dc_p12 pm_p12 an_p12 cd_p12 ct_p12), sl_p12⟩) (c_p12 : PySem.W.codeIn K cd_p12 "figure_at" = true) (k_p12 : PySem.W.keepIn K (.ref f_p12) = true)
    {f_p23 : Addr} {od_p23 an_p23 : Option Addr} {sl_p23 : Array (Option Value)} {oc_p23 kV_p23 dc_p23 pm_p23 cd_p23 ct_p23 : Value}
    (a_p23 : PySem.W.nsIn K mainGlobals "whole_of" = some (some (.ref f_p23))) (l_p23 : K.lookup f_p23 = some ⟨oc_p23, od_p23, .func (PySem.W.fnOf "whole_of" "whole_of" (defArgs s_p23) (defBody s_p23) (defScope s_p23) .none kV_p23 dc_p23 pm_p23 an_p23 cd_p23 ct_p23), sl_p23⟩) (c_p23 : PySem.W.codeIn K cd_p23 "whole_of" = true) (k_p23 : PySem.W.keepIn K (.ref f_p23) = true)
    {f_p16 : Addr} {od_p16 an_p16 : Option Addr} {sl_p16 : Array (Option Value)} {oc_p16 kV_p16 dc_p16 pm_p16 cd_p16 ct_p16 : Value}
    (a_p16 : PySem.W.nsIn K mainGlobals "mark_of" = some (some (.ref f_p16))) (l_p16 : K.lookup f_p16 = some ⟨oc_p16, od_p16, .func (PySem.W.fnOf "mark_of" "mark_of" (defArgs s_p16) (defBody s_p16) (defScope s_p16) .none kV_p16 dc_p16 pm_p16 an_p16 cd_p16 ct_p16), sl_p16⟩) (c_p16 : PySem.W.codeIn K cd_p16 "mark_of" = true) (k_p16 : PySem.W.keepIn K (.ref f_p16) = true)
    {f_p11 : Addr} {od_p11 an_p11 : Option Addr} {sl_p11 : Array (Option Value)} {oc_p11 kV_p11 dc_p11 pm_p11 cd_p11 ct_p11 : Value}
    (a_p11 : PySem.W.nsIn K mainGlobals "ends_of" = some (some (.ref f_p11))) (l_p11 : K.lookup f_p11 = some ⟨oc_p11, od_p11, .func (PySem.W.fnOf "ends_of" "ends_of" (defArgs s_p11) (defBody s_p11) (defScope s_p11) .none kV_p11 dc_p11 pm_p11 an_p11 cd_p11 ct_p11), sl_p11⟩) (c_p11 : PySem.W.codeIn K cd_p11 "ends_of" = true) (k_p11 : PySem.W.keepIn K (.ref f_p11) = true)
    {f_p9 : Addr} {od_p9 an_p9 : Option Addr} {sl_p9 : Array (Option Value)} {oc_p9 kV_p9 dc_p9 pm_p9 cd_p9 ct_p9 : Value}
    (a_p9 : PySem.W.nsIn K mainGlobals "ask_room" = some (some (.ref f_p9))) (l_p9 : K.lookup f_p9 = some ⟨oc_p9, od_p9, .func (PySem.W.fnOf "ask_room" "ask_room" (defArgs s_p9) (defBody s_p9) (defScope s_p9) .none kV_p9 dc_p9 pm_p9 an_p9 cd_p9 ct_p9), sl_p9⟩) (c_p9 : PySem.W.codeIn K cd_p9 "ask_room" = true) (k_p9 : PySem.W.keepIn K (.ref f_p9) = true)
    {f_p13 : Addr} {od_p13 an_p13 : Option Addr} {sl_p13 : Array (Option Value)} {oc_p13 kV_p13 dc_p13 pm_p13 cd_p13 ct_p13 : Value}
    (a_p13 : PySem.W.nsIn K mainGlobals "high_whole_of" = some (some (.ref f_p13))) (l_p13 : K.lookup f_p13 = some ⟨oc_p13, od_p13, .func (PySem.W.fnOf "high_whole_of" "high_whole_of" (defArgs s_p13) (defBody s_p13) (defScope s_p13) .none kV_p13 dc_p13 pm_p13 an_p13 cd_p13 ct_p13), sl_p13⟩) (c_p13 : PySem.W.codeIn K cd_p13 "high_whole_of" = true) (k_p13 : PySem.W.keepIn K (.ref f_p13) = true)
    {f_p19 : Addr} {od_p19 an_p19 : Option Addr} {sl_p19 : Array (Option Value)} {oc_p19 kV_p19 dc_p19 pm_p19 cd_p19 ct_p19 : Value}
    (a_p19 : PySem.W.nsIn K mainGlobals "owned_below" = some (some (.ref f_p19))) (l_p19 : K.lookup f_p19 = some ⟨oc_p19, od_p19, .func (PySem.W.fnOf "owned_below" "owned_below" (defArgs s_p19) (defBody s_p19) (defScope s_p19) .none kV_p19 dc_p19 pm_p19 an_p19 cd_p19 ct_p19), sl_p19⟩) (c_p19 : PySem.W.codeIn K cd_p19 "owned_below" = true) (k_p19 : PySem.W.keepIn K (.ref f_p19) = true)
    {f_p20 : Addr} {od_p20 an_p20 : Option Addr} {sl_p20 : Array (Option Value)} {oc_p20 kV_p20 dc_p20 pm_p20 cd_p20 ct_p20 : Value}
    (a_p20 : PySem.W.nsIn K mainGlobals "owned_up_to_low" = some (some (.ref f_p20))) (l_p20 : K.lookup f_p20 = some ⟨oc_p20, od_p20, .func (PySem.W.fnOf "owned_up_to_low" "owned_up_to_low" (defArgs s_p20) (defBody s_p20) (defScope s_p20) .none kV_p20 dc_p20 pm_p20 an_p20 cd_p20 ct_p20), sl_p20⟩) (c_p20 : PySem.W.codeIn K cd_p20 "owned_up_to_low" = true) (k_p20 : PySem.W.keepIn K (.ref f_p20) = true)
    {f_p18 : Addr} {od_p18 an_p18 : Option Addr} {sl_p18 : Array (Option Value)} {oc_p18 kV_p18 dc_p18 pm_p18 cd_p18 ct_p18 : Value}
    (a_p18 : PySem.W.nsIn K mainGlobals "owned_ahead_of_high" = some (some (.ref f_p18))) (l_p18 : K.lookup f_p18 = some ⟨oc_p18, od_p18, .func (PySem.W.fnOf "owned_ahead_of_high" "owned_ahead_of_high" (defArgs s_p18) (defBody s_p18) (defScope s_p18) .none kV_p18 dc_p18 pm_p18 an_p18 cd_p18 ct_p18), sl_p18⟩) (c_p18 : PySem.W.codeIn K cd_p18 "owned_ahead_of_high" = true) (k_p18 : PySem.W.keepIn K (.ref f_p18) = true)
    {f_p10 : Addr} {od_p10 an_p10 : Option Addr} {sl_p10 : Array (Option Value)} {oc_p10 kV_p10 dc_p10 pm_p10 cd_p10 ct_p10 : Value}
    (a_p10 : PySem.W.nsIn K mainGlobals "counted_at" = some (some (.ref f_p10))) (l_p10 : K.lookup f_p10 = some ⟨oc_p10, od_p10, .func (PySem.W.fnOf "counted_at" "counted_at" (defArgs s_p10) (defBody s_p10) (defScope s_p10) .none kV_p10 dc_p10 pm_p10 an_p10 cd_p10 ct_p10), sl_p10⟩) (c_p10 : PySem.W.codeIn K cd_p10 "counted_at" = true) (k_p10 : PySem.W.keepIn K (.ref f_p10) = true)
    {f_p17 : Addr} {od_p17 an_p17 : Option Addr} {sl_p17 : Array (Option Value)} {oc_p17 kV_p17 dc_p17 pm_p17 cd_p17 ct_p17 : Value}
    (a_p17 : PySem.W.nsIn K mainGlobals "nth_mark" = some (some (.ref f_p17))) (l_p17 : K.lookup f_p17 = some ⟨oc_p17, od_p17, .func (PySem.W.fnOf "nth_mark" "nth_mark" (defArgs s_p17) (defBody s_p17) (defScope s_p17) .none kV_p17 dc_p17 pm_p17 an_p17 cd_p17 ct_p17), sl_p17⟩) (c_p17 : PySem.W.codeIn K cd_p17 "nth_mark" = true) (k_p17 : PySem.W.keepIn K (.ref f_p17) = true)
    {f_p15 : Addr} {od_p15 an_p15 : Option Addr} {sl_p15 : Array (Option Value)} {oc_p15 kV_p15 dc_p15 pm_p15 cd_p15 ct_p15 : Value}
    (a_p15 : PySem.W.nsIn K mainGlobals "least_counted" = some (some (.ref f_p15))) (l_p15 : K.lookup f_p15 = some ⟨oc_p15, od_p15, .func (PySem.W.fnOf "least_counted" "least_counted" (defArgs s_p15) (defBody s_p15) (defScope s_p15) .none kV_p15 dc_p15 pm_p15 an_p15 cd_p15 ct_p15), sl_p15⟩) (c_p15 : PySem.W.codeIn K cd_p15 "least_counted" = true) (k_p15 : PySem.W.keepIn K (.ref f_p15) = true)
    {f_p22 : Addr} {od_p22 an_p22 : Option Addr} {sl_p22 : Array (Option Value)} {oc_p22 kV_p22 dc_p22 pm_p22 cd_p22 ct_p22 : Value}
    (a_p22 : PySem.W.nsIn K mainGlobals "stem_between" = some (some (.ref f_p22))) (l_p22 : K.lookup f_p22 = some ⟨oc_p22, od_p22, .func (PySem.W.fnOf "stem_between" "stem_between" (defArgs s_p22) (defBody s_p22) (defScope s_p22) .none kV_p22 dc_p22 pm_p22 an_p22 cd_p22 ct_p22), sl_p22⟩) (c_p22 : PySem.W.codeIn K cd_p22 "stem_between" = true) (k_p22 : PySem.W.keepIn K (.ref f_p22) = true)
    {f_draw : Addr} {od_draw an_draw : Option Addr} {sl_draw : Array (Option Value)} {oc_draw kV_draw dc_draw pm_draw cd_draw ct_draw : Value}
    (a_draw : PySem.W.nsIn K mainGlobals "_law_draw" = some (some (.ref f_draw))) (l_draw : K.lookup f_draw = some ⟨oc_draw, od_draw, .func (PySem.W.fnOf "_law_draw" "_law_draw" (defArgs s_draw) (defBody s_draw) (defScope s_draw) .none kV_draw dc_draw pm_draw an_draw cd_draw ct_draw), sl_draw⟩) (c_draw : PySem.W.codeIn K cd_draw "_law_draw" = true) (k_draw : PySem.W.keepIn K (.ref f_draw) = true)
    {f_letters : Addr} {od_letters an_letters : Option Addr} {sl_letters : Array (Option Value)} {oc_letters kV_letters dc_letters pm_letters cd_letters ct_letters : Value}
    (a_letters : PySem.W.nsIn K mainGlobals "_law_letters" = some (some (.ref f_letters))) (l_letters : K.lookup f_letters = some ⟨oc_letters, od_letters, .func (PySem.W.fnOf "_law_letters" "_law_letters" (defArgs s_letters) (defBody s_letters) (defScope s_letters) .none kV_letters dc_letters pm_letters an_letters cd_letters ct_letters), sl_letters⟩) (c_letters : PySem.W.codeIn K cd_letters "_law_letters" = true) (k_letters : PySem.W.keepIn K (.ref f_letters) = true)
    {f_l_power : Addr} {od_l_power an_l_power : Option Addr} {sl_l_power : Array (Option Value)} {oc_l_power kV_l_power dc_l_power pm_l_power cd_l_power ct_l_power : Value}
    (a_l_power : PySem.W.nsIn K mainGlobals "_law_power" = some (some (.ref f_l_power))) (l_l_power : K.lookup f_l_power = some ⟨oc_l_power, od_l_power, .func (PySem.W.fnOf "_law_power" "_law_power" (defArgs s_l_power) (defBody s_l_power) (defScope s_l_power) .none kV_l_power dc_l_power pm_l_power an_l_power cd_l_power ct_l_power), sl_l_power⟩) (c_l_power : PySem.W.codeIn K cd_l_power "_law_power" = true) (k_l_power : PySem.W.keepIn K (.ref f_l_power) = true)
    {f_whole : Addr} {od_whole an_whole : Option Addr} {sl_whole : Array (Option Value)} {oc_whole kV_whole dc_whole pm_whole cd_whole ct_whole : Value}
    (a_whole : PySem.W.nsIn K mainGlobals "_law_whole" = some (some (.ref f_whole))) (l_whole : K.lookup f_whole = some ⟨oc_whole, od_whole, .func (PySem.W.fnOf "_law_whole" "_law_whole" (defArgs s_whole) (defBody s_whole) (defScope s_whole) .none kV_whole dc_whole pm_whole an_whole cd_whole ct_whole), sl_whole⟩) (c_whole : PySem.W.codeIn K cd_whole "_law_whole" = true) (k_whole : PySem.W.keepIn K (.ref f_whole) = true)
    {f_span : Addr} {od_span an_span : Option Addr} {sl_span : Array (Option Value)} {oc_span kV_span dc_span pm_span cd_span ct_span : Value}
    (a_span : PySem.W.nsIn K mainGlobals "_law_span" = some (some (.ref f_span))) (l_span : K.lookup f_span = some ⟨oc_span, od_span, .func (PySem.W.fnOf "_law_span" "_law_span" (defArgs s_span) (defBody s_span) (defScope s_span) .none kV_span dc_span pm_span an_span cd_span ct_span), sl_span⟩) (c_span : PySem.W.codeIn K cd_span "_law_span" = true) (k_span : PySem.W.keepIn K (.ref f_span) = true)
    {f_mark : Addr} {od_mark an_mark : Option Addr} {sl_mark : Array (Option Value)} {oc_mark kV_mark dc_mark pm_mark cd_mark ct_mark : Value}
    (a_mark : PySem.W.nsIn K mainGlobals "_law_mark" = some (some (.ref f_mark))) (l_mark : K.lookup f_mark = some ⟨oc_mark, od_mark, .func (PySem.W.fnOf "_law_mark" "_law_mark" (defArgs s_mark) (defBody s_mark) (defScope s_mark) .none kV_mark dc_mark pm_mark an_mark cd_mark ct_mark), sl_mark⟩) (c_mark : PySem.W.codeIn K cd_mark "_law_mark" = true) (k_mark : PySem.W.keepIn K (.ref f_mark) = true)
    {f_refused : Addr} {od_refused an_refused : Option Addr} {sl_refused : Array (Option Value)} {oc_refused kV_refused dc_refused pm_refused cd_refused ct_refused : Value}
    (a_refused : PySem.W.nsIn K mainGlobals "_law_refused" = some (some (.ref f_refused))) (l_refused : K.lookup f_refused = some ⟨oc_refused, od_refused, .func (PySem.W.fnOf "_law_refused" "_law_refused" (defArgs s_refused) (defBody s_refused) (defScope s_refused) .none kV_refused dc_refused pm_refused an_refused cd_refused ct_refused), sl_refused⟩) (c_refused : PySem.W.codeIn K cd_refused "_law_refused" = true) (k_refused : PySem.W.keepIn K (.ref f_refused) = true)
    {f_pair : Addr} {od_pair an_pair : Option Addr} {sl_pair : Array (Option Value)} {oc_pair kV_pair dc_pair pm_pair cd_pair ct_pair : Value}
    (a_pair : PySem.W.nsIn K mainGlobals "_law_pair" = some (some (.ref f_pair))) (l_pair : K.lookup f_pair = some ⟨oc_pair, od_pair, .func (PySem.W.fnOf "_law_pair" "_law_pair" (defArgs s_pair) (defBody s_pair) (defScope s_pair) .none kV_pair dc_pair pm_pair an_pair cd_pair ct_pair), sl_pair⟩) (c_pair : PySem.W.codeIn K cd_pair "_law_pair" = true) (k_pair : PySem.W.keepIn K (.ref f_pair) = true)
    {f_stems : Addr} {od_stems an_stems : Option Addr} {sl_stems : Array (Option Value)} {oc_stems kV_stems dc_stems pm_stems cd_stems ct_stems : Value}
    (a_stems : PySem.W.nsIn K mainGlobals "_law_stems" = some (some (.ref f_stems))) (l_stems : K.lookup f_stems = some ⟨oc_stems, od_stems, .func (PySem.W.fnOf "_law_stems" "_law_stems" (defArgs s_stems) (defBody s_stems) (defScope s_stems) .none kV_stems dc_stems pm_stems an_stems cd_stems ct_stems), sl_stems⟩) (c_stems : PySem.W.codeIn K cd_stems "_law_stems" = true) (k_stems : PySem.W.keepIn K (.ref f_stems) = true)
    {f_law : Addr} {od_law an_law : Option Addr} {sl_law : Array (Option Value)} {oc_law kV_law dc_law pm_law cd_law ct_law : Value}
    (a_law : PySem.W.nsIn K mainGlobals "law" = some (some (.ref f_law))) (l_law : K.lookup f_law = some ⟨oc_law, od_law, .func (PySem.W.fnOf "law" "law" (defArgs s_law) (defBody s_law) (defScope s_law) .none kV_law dc_law pm_law an_law cd_law ct_law), sl_law⟩) (c_law : PySem.W.codeIn K cd_law "law" = true) (k_law : PySem.W.keepIn K (.ref f_law) = true)
    {c_NoRoom : Addr} (ac_NoRoom : PySem.W.nsIn K mainGlobals "NoRoom" = some (some (.ref c_NoRoom))) (xc_NoRoom : PySem.W.excIn K c_NoRoom [.type "ValueError", .type "Exception", .type "BaseException", .type "object"] "ValueError.__new__" = true)
    {c_ShelfError : Addr} (ac_ShelfError : PySem.W.nsIn K mainGlobals "ShelfError" = some (some (.ref c_ShelfError))) (xc_ShelfError : PySem.W.excIn K c_ShelfError [.type "ValueError", .type "Exception", .type "BaseException", .type "object"] "ValueError.__new__" = true)
    {c_NoHand : Addr} (ac_NoHand : PySem.W.nsIn K mainGlobals "NoHand" = some (some (.ref c_NoHand)))
    {c_NoLetters : Addr} (ac_NoLetters : PySem.W.nsIn K mainGlobals "NoLetters" = some (some (.ref c_NoLetters)))
    {c_NoLine : Addr} (ac_NoLine : PySem.W.nsIn K mainGlobals "NoLine" = some (some (.ref c_NoLine)))
    {c_NoPlace : Addr} (ac_NoPlace : PySem.W.nsIn K mainGlobals "NoPlace" = some (some (.ref c_NoPlace)))
    {c_NoShelf : Addr} (ac_NoShelf : PySem.W.nsIn K mainGlobals "NoShelf" = some (some (.ref c_NoShelf)))
    {c_NoState : Addr} (ac_NoState : PySem.W.nsIn K mainGlobals "NoState" = some (some (.ref c_NoState)))
    {c_NoThing : Addr} (ac_NoThing : PySem.W.nsIn K mainGlobals "NoThing" = some (some (.ref c_NoThing)))
    (e1_NoRoom : PySem.W.findIn K (.ref c_NoRoom) "__getattribute__" = some (some (.builtin "BaseException.__getattribute__"))) (e2_NoRoom : PySem.W.findIn K (.ref c_NoRoom) "__getattr__" = some none) (e3_NoRoom : PySem.W.findIn K (.ref c_NoRoom) "__class__" = some (some (.builtin "object.__class__")))
    (e4_NoRoom : PySem.W.mroIn K c_NoRoom (.type "object") = some true) (e5_NoRoom : PySem.W.mroIn K c_NoRoom (.type "BaseException") = some true)
    (mv_NoRoom_ValueError : PySem.W.mroIn K c_NoRoom (.type "ValueError") = some true)
    (ty_NoThing : PySem.W.typeIn K (.ref c_NoThing) = some (.type "type"))
    (mo_NoThing : PySem.W.mroIn K c_NoThing (.type "object") = some true)
    (mr_NoRoom_NoThing : PySem.W.mroIn K c_NoRoom (.ref c_NoThing) = some false)
    (ne_NoRoom_NoThing : (c_NoRoom == c_NoThing) = false)
    (ty_NoState : PySem.W.typeIn K (.ref c_NoState) = some (.type "type"))
    (mo_NoState : PySem.W.mroIn K c_NoState (.type "object") = some true)
    (mr_NoRoom_NoState : PySem.W.mroIn K c_NoRoom (.ref c_NoState) = some false)
    (ne_NoRoom_NoState : (c_NoRoom == c_NoState) = false)
    (ty_NoShelf : PySem.W.typeIn K (.ref c_NoShelf) = some (.type "type"))
    (mo_NoShelf : PySem.W.mroIn K c_NoShelf (.type "object") = some true)
    (mr_NoRoom_NoShelf : PySem.W.mroIn K c_NoRoom (.ref c_NoShelf) = some false)
    (ne_NoRoom_NoShelf : (c_NoRoom == c_NoShelf) = false)
    (ty_NoPlace : PySem.W.typeIn K (.ref c_NoPlace) = some (.type "type"))
    (mo_NoPlace : PySem.W.mroIn K c_NoPlace (.type "object") = some true)
    (mr_NoRoom_NoPlace : PySem.W.mroIn K c_NoRoom (.ref c_NoPlace) = some false)
    (ne_NoRoom_NoPlace : (c_NoRoom == c_NoPlace) = false)
    (ty_NoLine : PySem.W.typeIn K (.ref c_NoLine) = some (.type "type"))
    (mo_NoLine : PySem.W.mroIn K c_NoLine (.type "object") = some true)
    (mr_NoRoom_NoLine : PySem.W.mroIn K c_NoRoom (.ref c_NoLine) = some false)
    (ne_NoRoom_NoLine : (c_NoRoom == c_NoLine) = false)
    (ty_NoLetters : PySem.W.typeIn K (.ref c_NoLetters) = some (.type "type"))
    (mo_NoLetters : PySem.W.mroIn K c_NoLetters (.type "object") = some true)
    (mr_NoRoom_NoLetters : PySem.W.mroIn K c_NoRoom (.ref c_NoLetters) = some false)
    (ne_NoRoom_NoLetters : (c_NoRoom == c_NoLetters) = false)
    (ty_NoHand : PySem.W.typeIn K (.ref c_NoHand) = some (.type "type"))
    (mo_NoHand : PySem.W.mroIn K c_NoHand (.type "object") = some true)
    (mr_NoRoom_NoHand : PySem.W.mroIn K c_NoRoom (.ref c_NoHand) = some false)
    (ne_NoRoom_NoHand : (c_NoRoom == c_NoHand) = false)
    (sc_NoRoom_ShelfError : PySem.W.mroIn K c_NoRoom (.ref c_ShelfError) = some true)
    {t_SMALL : Tok} (q_SMALL : PySem.W.nsIn K mainGlobals "SMALL" = some (some (.str "abcdefghijklmnopqrstuvwxyz" t_SMALL)))
    (z_ValueError : PySem.W.nsIn K mainGlobals "ValueError" = some none)
    (z_int : PySem.W.nsIn K mainGlobals "int" = some none)
    (z_isinstance : PySem.W.nsIn K mainGlobals "isinstance" = some none)
    (z_len : PySem.W.nsIn K mainGlobals "len" = some none)
    (z_max : PySem.W.nsIn K mainGlobals "max" = some none)
    (z_min : PySem.W.nsIn K mainGlobals "min" = some none)
    (z_range : PySem.W.nsIn K mainGlobals "range" = some none)
    (z_str : PySem.W.nsIn K mainGlobals "str" = some none)
    : ∃ a : Ad, Tx K mg a ∧ mg "law" = some (.ref a.f_law) ∧ ∀ (s : Shared) (v : Value), BindsTo s a.fd_law ⟨[v], []⟩ [("_law_script", v)] := by
  have F_p21 := fun_mk (st := s_p21) l_p21 c_p21 k_p21
  have b_p21 := F_p21.binds (ps := ["letters", "long"]) fun _ _ _ _ _ _ us hl => by obtain ⟨_, _, e⟩ := ex2 hl; subst e; rfl
  have F_p12 := fun_mk (st := s_p12) l_p12 c_p12 k_p12
  have b_p12 := F_p12.binds (ps := ["mark", "place"]) fun _ _ _ _ _ _ us hl => by obtain ⟨_, _, e⟩ := ex2 hl; subst e; rfl
  have F_p23 := fun_mk (st := s_p23) l_p23 c_p23 k_p23
  have b_p23 := F_p23.binds (ps := ["letters", "mark", "long"]) fun _ _ _ _ _ _ us hl => by obtain ⟨_, _, _, e⟩ := ex3 hl; subst e; rfl
  have F_p16 := fun_mk (st := s_p16) l_p16 c_p16 k_p16
  have b_p16 := F_p16.binds (ps := ["letters", "number", "long"]) fun _ _ _ _ _ _ us hl => by obtain ⟨_, _, _, e⟩ := ex3 hl; subst e; rfl
  have F_p11 := fun_mk (st := s_p11) l_p11 c_p11 k_p11
  have b_p11 := F_p11.binds (ps := ["letters", "hands", "hand"]) fun _ _ _ _ _ _ us hl => by obtain ⟨_, _, _, e⟩ := ex3 hl; subst e; rfl
  have F_p9 := fun_mk (st := s_p9) l_p9 c_p9 k_p9
  have b_p9 := F_p9.binds (ps := ["low", "high"]) fun _ _ _ _ _ _ us hl => by obtain ⟨_, _, e⟩ := ex2 hl; subst e; rfl
  have F_p13 := fun_mk (st := s_p13) l_p13 c_p13 k_p13
  have b_p13 := F_p13.binds (ps := ["letters", "high", "long"]) fun _ _ _ _ _ _ us hl => by obtain ⟨_, _, _, e⟩ := ex3 hl; subst e; rfl
  have F_p19 := fun_mk (st := s_p19) l_p19 c_p19 k_p19
  have b_p19 := F_p19.binds (ps := ["letters", "ends", "number"]) fun _ _ _ _ _ _ us hl => by obtain ⟨_, _, _, e⟩ := ex3 hl; subst e; rfl
  have F_p20 := fun_mk (st := s_p20) l_p20 c_p20 k_p20
  have b_p20 := F_p20.binds (ps := ["letters", "ends", "low_whole"]) fun _ _ _ _ _ _ us hl => by obtain ⟨_, _, _, e⟩ := ex3 hl; subst e; rfl
  have F_p18 := fun_mk (st := s_p18) l_p18 c_p18 k_p18
  have b_p18 := F_p18.binds (ps := ["letters", "ends", "high", "high_whole", "long", "beginnings"]) fun _ _ _ _ _ _ us hl => by obtain ⟨_, _, _, _, _, _, e⟩ := ex6 hl; subst e; rfl
  have F_p10 := fun_mk (st := s_p10) l_p10 c_p10 k_p10
  have b_p10 := F_p10.binds (ps := ["letters", "ends", "low", "high", "long", "beginnings"]) fun _ _ _ _ _ _ us hl => by obtain ⟨_, _, _, _, _, _, e⟩ := ex6 hl; subst e; rfl
  have F_p17 := fun_mk (st := s_p17) l_p17 c_p17 k_p17
  have b_p17 := F_p17.binds (ps := ["letters", "hands", "hand", "low", "high", "long", "number"]) fun _ _ _ _ _ _ us hl => by obtain ⟨_, _, _, _, _, _, _, e⟩ := ex7 hl; subst e; rfl
  have F_p15 := fun_mk (st := s_p15) l_p15 c_p15 k_p15
  have b_p15 := F_p15.binds (ps := ["letters", "ends", "low", "high", "many", "beginnings"]) fun _ _ _ _ _ _ us hl => by obtain ⟨_, _, _, _, _, _, e⟩ := ex6 hl; subst e; rfl
  have F_p22 := fun_mk (st := s_p22) l_p22 c_p22 k_p22
  have b_p22 := F_p22.binds (ps := ["letters", "low", "high"]) fun _ _ _ _ _ _ us hl => by obtain ⟨_, _, _, e⟩ := ex3 hl; subst e; rfl
  have F_draw := fun_mk (st := s_draw) l_draw c_draw k_draw
  have b_draw := F_draw.binds (ps := ["_law_script", "_law_k", "_law_many"]) fun _ _ _ _ _ _ us hl => by obtain ⟨_, _, _, e⟩ := ex3 hl; subst e; rfl
  have F_letters := fun_mk (st := s_letters) l_letters c_letters k_letters
  have b_letters := F_letters.binds (ps := ["_law_script"]) fun _ _ _ _ _ _ us hl => by obtain ⟨_, e⟩ := ex1 hl; subst e; rfl
  have F_l_power := fun_mk (st := s_l_power) l_l_power c_l_power k_l_power
  have b_l_power := F_l_power.binds (ps := ["_law_letters_here", "_law_long"]) fun _ _ _ _ _ _ us hl => by obtain ⟨_, _, e⟩ := ex2 hl; subst e; rfl
  have F_whole := fun_mk (st := s_whole) l_whole c_whole k_whole
  have b_whole := F_whole.binds (ps := ["_law_letters_here", "_law_mark_here", "_law_long"]) fun _ _ _ _ _ _ us hl => by obtain ⟨_, _, _, e⟩ := ex3 hl; subst e; rfl
  have F_span := fun_mk (st := s_span) l_span c_span k_span
  have b_span := F_span.binds (ps := ["_law_letters_here", "_law_low", "_law_high", "_law_long"]) fun _ _ _ _ _ _ us hl => by obtain ⟨_, _, _, _, e⟩ := ex4 hl; subst e; rfl
  have F_mark := fun_mk (st := s_mark) l_mark c_mark k_mark
  have b_mark := F_mark.binds (ps := ["_law_script", "_law_base", "_law_letters_here"]) fun _ _ _ _ _ _ us hl => by obtain ⟨_, _, _, e⟩ := ex3 hl; subst e; rfl
  have F_refused := fun_mk (st := s_refused) l_refused c_refused k_refused
  have b_refused := F_refused.binds (ps := ["_law_letters_here", "_law_low", "_law_high"]) fun _ _ _ _ _ _ us hl => by obtain ⟨_, _, _, e⟩ := ex3 hl; subst e; rfl
  have F_pair := fun_mk (st := s_pair) l_pair c_pair k_pair
  have b_pair := F_pair.binds (ps := ["_law_script", "_law_letters_here"]) fun _ _ _ _ _ _ us hl => by obtain ⟨_, _, e⟩ := ex2 hl; subst e; rfl
  have F_stems := fun_mk (st := s_stems) l_stems c_stems k_stems
  have b_stems := F_stems.binds (ps := ["_law_letters_here", "_law_low", "_law_high", "_law_long"]) fun _ _ _ _ _ _ us hl => by obtain ⟨_, _, _, _, e⟩ := ex4 hl; subst e; rfl
  have F_law := fun_mk (st := s_law) l_law c_law k_law
  have b_law := F_law.binds (ps := ["_law_script"]) fun _ _ _ _ _ _ us hl => by obtain ⟨_, e⟩ := ex1 hl; subst e; rfl
  exact ⟨⟨c_NoRoom, c_ShelfError, c_NoHand, c_NoLetters, c_NoLine, c_NoPlace, c_NoShelf, c_NoState, c_NoThing, f_p21, f_p12, f_p23, f_p16, f_p11, f_p9, f_p13, f_p19, f_p20, f_p18, f_p10, f_p17, f_p15, f_p22, f_draw, f_letters, f_l_power, f_whole, f_span, f_mark, f_refused, f_pair, f_stems, f_law, _, _, _, _, _, _, _, _, _, _, _, _, _, _, _, _, _, _, _, _, _, _, _, _⟩, ⟨PySem.W.mg_none_of X G z_ValueError, PySem.W.mg_none_of X G z_int, PySem.W.mg_none_of X G z_isinstance, PySem.W.mg_none_of X G z_len, PySem.W.mg_none_of X G z_max, PySem.W.mg_none_of X G z_min, PySem.W.mg_none_of X G z_range, PySem.W.mg_none_of X G z_str, ⟨_, PySem.W.mg_of X G q_SMALL⟩, PySem.W.mg_of X G ac_NoRoom, xc_NoRoom, PySem.W.mg_of X G ac_ShelfError, xc_ShelfError, PySem.W.mg_of X G ac_NoHand, PySem.W.mg_of X G ac_NoLetters, PySem.W.mg_of X G ac_NoLine, PySem.W.mg_of X G ac_NoPlace, PySem.W.mg_of X G ac_NoShelf, PySem.W.mg_of X G ac_NoState, PySem.W.mg_of X G ac_NoThing, ⟨e1_NoRoom, e2_NoRoom, e3_NoRoom, e4_NoRoom, e5_NoRoom⟩, (kit_self), (kit_ty (by kernel_rfl) mv_NoRoom_ValueError), (kit_no (kit_cl ty_NoHand mo_NoHand mr_NoRoom_NoHand ne_NoRoom_NoHand) (kit_no (kit_cl ty_NoLetters mo_NoLetters mr_NoRoom_NoLetters ne_NoRoom_NoLetters) (kit_no (kit_cl ty_NoLine mo_NoLine mr_NoRoom_NoLine ne_NoRoom_NoLine) (kit_no (kit_cl ty_NoPlace mo_NoPlace mr_NoRoom_NoPlace ne_NoRoom_NoPlace) (kit_no (kit_cl ty_NoShelf mo_NoShelf mr_NoRoom_NoShelf ne_NoRoom_NoShelf) (kit_no (kit_cl ty_NoState mo_NoState mr_NoRoom_NoState ne_NoRoom_NoState) (kit_no (kit_cl ty_NoThing mo_NoThing mr_NoRoom_NoThing ne_NoRoom_NoThing) (kit_nil)))))))), sc_NoRoom_ShelfError, PySem.W.mg_of X G a_p21, F_p21, b_p21, PySem.W.mg_of X G a_p12, F_p12, b_p12, PySem.W.mg_of X G a_p23, F_p23, b_p23, PySem.W.mg_of X G a_p16, F_p16, b_p16, PySem.W.mg_of X G a_p11, F_p11, b_p11, PySem.W.mg_of X G a_p9, F_p9, b_p9, PySem.W.mg_of X G a_p13, F_p13, b_p13, PySem.W.mg_of X G a_p19, F_p19, b_p19, PySem.W.mg_of X G a_p20, F_p20, b_p20, PySem.W.mg_of X G a_p18, F_p18, b_p18, PySem.W.mg_of X G a_p10, F_p10, b_p10, PySem.W.mg_of X G a_p17, F_p17, b_p17, PySem.W.mg_of X G a_p15, F_p15, b_p15, PySem.W.mg_of X G a_p22, F_p22, b_p22, PySem.W.mg_of X G a_draw, F_draw, b_draw, PySem.W.mg_of X G a_letters, F_letters, b_letters, PySem.W.mg_of X G a_l_power, F_l_power, b_l_power, PySem.W.mg_of X G a_whole, F_whole, b_whole, PySem.W.mg_of X G a_span, F_span, b_span, PySem.W.mg_of X G a_mark, F_mark, b_mark, PySem.W.mg_of X G a_refused, F_refused, b_refused, PySem.W.mg_of X G a_pair, F_pair, b_pair, PySem.W.mg_of X G a_stems, F_stems, b_stems, PySem.W.mg_of X G a_law, F_law, b_law⟩, PySem.W.mg_of X G a_law, fun s v => .of_eq rfl⟩
theorem walk {l : PySem.W.OpenLaw} {q : Program} {loose : List Str} {XP : (Str → Option Value) → Heap → Prop} {YP : World → Heap → Prop} {d : DefRec} {K : Params → PySem.W.Frag} (hn : l.most = some 63) (hdf : d.params.defaults = [])
    (hY : ∀ (w : World) (h : Heap), YP w h → (K w.params).In h)
    (F : ∀ (w : World) (mg : Str → Option Value) (fa : Addr) (h : Heap), (K w.params).In h → h.Ns mainGlobals mg → mg d.name = some (.ref fa) →
      ∃ fd : FuncData, (∀ (s : Shared) (u : Value), BindsTo s fd ⟨[u], []⟩ [("_law_script", u)]) ∧ ∀ base : Heap, (K w.params).In base → base.Ns mainGlobals mg → FnOk l.prog w (K w.params) mg base CX0 7 fa fd ["_law_script"] (spLaw (K w.params))) :
    PySem.W.WalkO q loose XP YP l.row.toRowW d [] (fun f vs => PySem.call f vs) :=
  L2.walk_of (n := 63) (k := 7) (x := "_law_script") (CX := fun _ => CX0) (sp := fun w => spLaw (K w.params)) hn (by decide) hdf ⟨rfl, by decide, by decide⟩ hY F (fun _ _ a ns hl _ hS => ⟨a, ns, rfl, hS, hl, fun _ => rfl⟩) fun _ _ _ _ _ z => z
end K41
open PySem PySem.W PyProof.Rows
set_option maxRecDepth 100000 in
set_option maxHeartbeats 0 in
theorem PySem.Challenge.cw_shelfmark_k41_stems_holds : PySem.Challenge.rw_shelfmark_k41_stems.Holds := by
  w_on; o_law; k_head; (case hw => w_witness2)
  k_fill
  refine K41.walk (l := PySem.Challenge.rw_shelfmark_k41_stems) rfl rfl (fun w h Y => PySem.W.kIn_of Y) ?F
  case F =>
    intro w mg fa h KX G hmg
    have M : ∃ a : K41.Ad, K41.Tx (L2.KOf KX) mg a ∧ mg "law" = some (.ref a.f_law) ∧ ∀ (s : Shared) (v : Value), BindsTo s a.fd_law ⟨[v], []⟩ [("_law_script", v)] := by
      dsimp only [L2.KOf]
      refine' K41.tx_mk KX G (a_p21 := ?a_p21) (l_p21 := ?l_p21) (c_p21 := ?c_p21) (k_p21 := ?k_p21) (a_p12 := ?a_p12) (l_p12 := ?l_p12) (c_p12 := ?c_p12) (k_p12 := ?k_p12) (a_p23 := ?a_p23) (l_p23 := ?l_p23) (c_p23 := ?c_p23) (k_p23 := ?k_p23) (a_p16 := ?a_p16) (l_p16 := ?l_p16) (c_p16 := ?c_p16) (k_p16 := ?k_p16) (a_p11 := ?a_p11) (l_p11 := ?l_p11) (c_p11 := ?c_p11) (k_p11 := ?k_p11) (a_p9 := ?a_p9) (l_p9 := ?l_p9) (c_p9 := ?c_p9) (k_p9 := ?k_p9) (a_p13 := ?a_p13) (l_p13 := ?l_p13) (c_p13 := ?c_p13) (k_p13 := ?k_p13) (a_p19 := ?a_p19) (l_p19 := ?l_p19) (c_p19 := ?c_p19) (k_p19 := ?k_p19) (a_p20 := ?a_p20) (l_p20 := ?l_p20) (c_p20 := ?c_p20) (k_p20 := ?k_p20) (a_p18 := ?a_p18) (l_p18 := ?l_p18) (c_p18 := ?c_p18) (k_p18 := ?k_p18) (a_p10 := ?a_p10) (l_p10 := ?l_p10) (c_p10 := ?c_p10) (k_p10 := ?k_p10) (a_p17 := ?a_p17) (l_p17 := ?l_p17) (c_p17 := ?c_p17) (k_p17 := ?k_p17) (a_p15 := ?a_p15) (l_p15 := ?l_p15) (c_p15 := ?c_p15) (k_p15 := ?k_p15) (a_p22 := ?a_p22) (l_p22 := ?l_p22) (c_p22 := ?c_p22) (k_p22 := ?k_p22) (a_draw := ?a_draw) (l_draw := ?l_draw) (c_draw := ?c_draw) (k_draw := ?k_draw) (a_letters := ?a_letters) (l_letters := ?l_letters) (c_letters := ?c_letters) (k_letters := ?k_letters) (a_l_power := ?a_l_power) (l_l_power := ?l_l_power) (c_l_power := ?c_l_power) (k_l_power := ?k_l_power) (a_whole := ?a_whole) (l_whole := ?l_whole) (c_whole := ?c_whole) (k_whole := ?k_whole) (a_span := ?a_span) (l_span := ?l_span) (c_span := ?c_span) (k_span := ?k_span) (a_mark := ?a_mark) (l_mark := ?l_mark) (c_mark := ?c_mark) (k_mark := ?k_mark) (a_refused := ?a_refused) (l_refused := ?l_refused) (c_refused := ?c_refused) (k_refused := ?k_refused) (a_pair := ?a_pair) (l_pair := ?l_pair) (c_pair := ?c_pair) (k_pair := ?k_pair) (a_stems := ?a_stems) (l_stems := ?l_stems) (c_stems := ?c_stems) (k_stems := ?k_stems) (a_law := ?a_law) (l_law := ?l_law) (c_law := ?c_law) (k_law := ?k_law) (ac_NoRoom := ?ac_NoRoom) (xc_NoRoom := ?xc_NoRoom) (ac_ShelfError := ?ac_ShelfError) (xc_ShelfError := ?xc_ShelfError) (ac_NoHand := ?ac_NoHand) (ac_NoLetters := ?ac_NoLetters) (ac_NoLine := ?ac_NoLine) (ac_NoPlace := ?ac_NoPlace) (ac_NoShelf := ?ac_NoShelf) (ac_NoState := ?ac_NoState) (ac_NoThing := ?ac_NoThing) (e1_NoRoom := ?e1_NoRoom) (e2_NoRoom := ?e2_NoRoom) (e3_NoRoom := ?e3_NoRoom) (e4_NoRoom := ?e4_NoRoom) (e5_NoRoom := ?e5_NoRoom) (mv_NoRoom_ValueError := ?mv_NoRoom_ValueError) (ty_NoThing := ?ty_NoThing) (mo_NoThing := ?mo_NoThing) (mr_NoRoom_NoThing := ?mr_NoRoom_NoThing) (ne_NoRoom_NoThing := ?ne_NoRoom_NoThing) (ty_NoState := ?ty_NoState) (mo_NoState := ?mo_NoState) (mr_NoRoom_NoState := ?mr_NoRoom_NoState) (ne_NoRoom_NoState := ?ne_NoRoom_NoState) (ty_NoShelf := ?ty_NoShelf) (mo_NoShelf := ?mo_NoShelf) (mr_NoRoom_NoShelf := ?mr_NoRoom_NoShelf) (ne_NoRoom_NoShelf := ?ne_NoRoom_NoShelf) (ty_NoPlace := ?ty_NoPlace) (mo_NoPlace := ?mo_NoPlace) (mr_NoRoom_NoPlace := ?mr_NoRoom_NoPlace) (ne_NoRoom_NoPlace := ?ne_NoRoom_NoPlace) (ty_NoLine := ?ty_NoLine) (mo_NoLine := ?mo_NoLine) (mr_NoRoom_NoLine := ?mr_NoRoom_NoLine) (ne_NoRoom_NoLine := ?ne_NoRoom_NoLine) (ty_NoLetters := ?ty_NoLetters) (mo_NoLetters := ?mo_NoLetters) (mr_NoRoom_NoLetters := ?mr_NoRoom_NoLetters) (ne_NoRoom_NoLetters := ?ne_NoRoom_NoLetters) (ty_NoHand := ?ty_NoHand) (mo_NoHand := ?mo_NoHand) (mr_NoRoom_NoHand := ?mr_NoRoom_NoHand) (ne_NoRoom_NoHand := ?ne_NoRoom_NoHand) (sc_NoRoom_ShelfError := ?sc_NoRoom_ShelfError) (q_SMALL := ?q_SMALL) (z_ValueError := ?z_ValueError) (z_int := ?z_int) (z_isinstance := ?z_isinstance) (z_len := ?z_len) (z_max := ?z_max) (z_min := ?z_min) (z_range := ?z_range) (z_str := ?z_str)
      (case a_p21 => k_is)
      (case l_p21 => k_is)
      (case c_p21 => k_is)
      (case k_p21 => k_is)
      (case a_p12 => k_is)
      (case l_p12 => k_is)
      (case c_p12 => k_is)
      (case k_p12 => k_is)
      (case a_p23 => k_is)
      (case l_p23 => k_is)
      (case c_p23 => k_is)
      (case k_p23 => k_is)
      (case a_p16 => k_is)
      (case l_p16 => k_is)
      (case c_p16 => k_is)
      (case k_p16 => k_is)
      (case a_p11 => k_is)
      (case l_p11 => k_is)
      (case c_p11 => k_is)
      (case k_p11 => k_is)
      (case a_p9 => k_is)
      (case l_p9 => k_is)
      (case c_p9 => k_is)
      (case k_p9 => k_is)
      (case a_p13 => k_is)
      (case l_p13 => k_is)
      (case c_p13 => k_is)
      (case k_p13 => k_is)
      (case a_p19 => k_is)
      (case l_p19 => k_is)
      (case c_p19 => k_is)
      (case k_p19 => k_is)
      (case a_p20 => k_is)
      (case l_p20 => k_is)
      (case c_p20 => k_is)
      (case k_p20 => k_is)
      (case a_p18 => k_is)
      (case l_p18 => k_is)
      (case c_p18 => k_is)
      (case k_p18 => k_is)
      (case a_p10 => k_is)
      (case l_p10 => k_is)
      (case c_p10 => k_is)
      (case k_p10 => k_is)
      (case a_p17 => k_is)
      (case l_p17 => k_is)
      (case c_p17 => k_is)
      (case k_p17 => k_is)
      (case a_p15 => k_is)
      (case l_p15 => k_is)
      (case c_p15 => k_is)
      (case k_p15 => k_is)
      (case a_p22 => k_is)
      (case l_p22 => k_is)
      (case c_p22 => k_is)
      (case k_p22 => k_is)
      (case a_draw => k_is)
      (case l_draw => k_is)
      (case c_draw => k_is)
      (case k_draw => k_is)
      (case a_letters => k_is)
      (case l_letters => k_is)
      (case c_letters => k_is)
      (case k_letters => k_is)
      (case a_l_power => k_is)
      (case l_l_power => k_is)
      (case c_l_power => k_is)
      (case k_l_power => k_is)
      (case a_whole => k_is)
      (case l_whole => k_is)
      (case c_whole => k_is)
      (case k_whole => k_is)
      (case a_span => k_is)
      (case l_span => k_is)
      (case c_span => k_is)
      (case k_span => k_is)
      (case a_mark => k_is)
      (case l_mark => k_is)
      (case c_mark => k_is)
      (case k_mark => k_is)
      (case a_refused => k_is)
      (case l_refused => k_is)
      (case c_refused => k_is)
      (case k_refused => k_is)
      (case a_pair => k_is)
      (case l_pair => k_is)
      (case c_pair => k_is)
      (case k_pair => k_is)
      (case a_stems => k_is)
      (case l_stems => k_is)
      (case c_stems => k_is)
      (case k_stems => k_is)
      (case a_law => k_is)
      (case l_law => k_is)
      (case c_law => k_is)
      (case k_law => k_is)
      (case ac_NoRoom => k_is)
      (case xc_NoRoom => k_exc)
      (case ac_ShelfError => k_is)
      (case xc_ShelfError => k_exc)
      (case ac_NoHand => k_is)
      (case ac_NoLetters => k_is)
      (case ac_NoLine => k_is)
      (case ac_NoPlace => k_is)
      (case ac_NoShelf => k_is)
      (case ac_NoState => k_is)
      (case ac_NoThing => k_is)
      (case e1_NoRoom => k_is)
      (case e2_NoRoom => k_is)
      (case e3_NoRoom => k_is)
      (case e4_NoRoom => k_is)
      (case e5_NoRoom => k_is)
      (case mv_NoRoom_ValueError => k_is)
      (case ty_NoThing => k_is)
      (case mo_NoThing => k_is)
      (case mr_NoRoom_NoThing => k_is)
      (case ne_NoRoom_NoThing => rfl)
      (case ty_NoState => k_is)
      (case mo_NoState => k_is)
      (case mr_NoRoom_NoState => k_is)
      (case ne_NoRoom_NoState => rfl)
      (case ty_NoShelf => k_is)
      (case mo_NoShelf => k_is)
      (case mr_NoRoom_NoShelf => k_is)
      (case ne_NoRoom_NoShelf => rfl)
      (case ty_NoPlace => k_is)
      (case mo_NoPlace => k_is)
      (case mr_NoRoom_NoPlace => k_is)
      (case ne_NoRoom_NoPlace => rfl)
      (case ty_NoLine => k_is)
      (case mo_NoLine => k_is)
      (case mr_NoRoom_NoLine => k_is)
      (case ne_NoRoom_NoLine => rfl)
      (case ty_NoLetters => k_is)
      (case mo_NoLetters => k_is)
      (case mr_NoRoom_NoLetters => k_is)
      (case ne_NoRoom_NoLetters => rfl)
      (case ty_NoHand => k_is)
      (case mo_NoHand => k_is)
      (case mr_NoRoom_NoHand => k_is)
      (case ne_NoRoom_NoHand => rfl)
      (case sc_NoRoom_ShelfError => k_is)
      (case q_SMALL => k_is)
      (case z_ValueError => k_is)
      (case z_int => k_is)
      (case z_isinstance => k_is)
      (case z_len => k_is)
      (case z_max => k_is)
      (case z_min => k_is)
      (case z_range => k_is)
      (case z_str => k_is)
    obtain ⟨a, T, hl, hb⟩ := M
    have e0 := hmg.symm.trans hl
    cases e0
    exact ⟨_, hb, fun base _ _ => K41.ok_law T⟩
