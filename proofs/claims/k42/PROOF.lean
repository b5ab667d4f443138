import PyProof.Rows.All
import Wide.All
import OpenK.AllK
import Wide.FinOn
import Lean
import PyProof.EqAt
import PyProof.EqKinds
import PyProof.TupleCall
import KE.IntBitsLaws
import KE.KRevIter
import KE.KDictSum
import PySem.Challenge.RW_shelfmark_k42_whole_marks_carried
set_option Elab.async false
set_option linter.all false
set_option maxRecDepth 100000
namespace L2
open PySem PySem.Spec PyProof.Rows
inductive Key where
  | inl (i : Int) | inr (x : Str) | non
deriving DecidableEq
def isNon : Value → Bool
  | .none => true
  | _ => false
def keyIs : Key → Value → Bool
  | .inl k, v => Value.isInt k v
  | .inr x, v => Value.isStrOf x v
  | .non, v => isNon v
def keyH (w : World) : Key → Int
  | .inl k => hashInt k
  | .inr x => hashStr w x
  | .non => (reduceHash 4238894112)
theorem keyIs_shape : ∀ {k : Key} {v : Value}, keyIs k v = true → (∃ i t, k = Key.inl i ∧ v = Value.int i t) ∨ (∃ x t, k = Key.inr x ∧ v = Value.str x t) ∨ (k = Key.non ∧ v = Value.none)
  | .inl i, v, h => by
    obtain ⟨t, e⟩ := Value.isInt_shape (k := i) (v := v) h
    exact .inl ⟨i, t, rfl, e⟩
  | .inr x, v, h => by
    obtain ⟨t, e⟩ := Value.isStrOf_shape (x := x) (v := v) h
    exact .inr (.inl ⟨x, t, rfl, e⟩)
  | .non, v, h => by
    cases v <;> first | exact .inr (.inr ⟨rfl, rfl⟩) | exact nomatch (show false = true from h)
theorem keyIs_int (i : Int) (t : Tok) : keyIs (.inl i) (.int i t) = true := by simp [keyIs, Value.isInt]
theorem keyIs_str (x : Str) (t : Tok) : keyIs (.inr x) (.str x t) = true := by simp [keyIs, Value.isStrOf]
theorem key_ll (a b : Int) : decide (Key.inl a = Key.inl b) = (a == b) := by
  by_cases e : a = b
  · subst e; simp
  · rw [decide_eq_false (fun q => e (Key.inl.inj q))]; exact (beq_eq_false_iff_ne.mpr e).symm
theorem key_rr (a b : Str) : decide (Key.inr a = Key.inr b) = decide (a = b) := by
  by_cases e : a = b
  · subst e; simp
  · rw [decide_eq_false (fun q => e (Key.inr.inj q)), decide_eq_false e]
theorem hash_non {prog : Program} {w : World} {A : Around} {E : Value → Shared → Prop} {s : Shared} {Q : Int → Shared → Prop} (h : Q (reduceHash 4238894112) { s with toks := s.toks + 1 }) : wpAny (model prog w) A (pyHash .none) Q E s :=
  W.pyHash_slot (T := "NoneType") rfl F.slot_NoneType_hash F.entry_NoneType_hash (F.args_NoneType_hash_1 _) (beq_builtin_none _) (.inl rfl) (wpAny_bind (wpAny_pure (wpAny_bind (wpAny_mkInt (wpAny_pure ⟨_, _, rfl, h⟩)))))
theorem eq_non {prog : Program} {w : World} {A : Around} {E : Value → Shared → Prop} {s : Shared} {Q : Bool → Shared → Prop} (h : Q true s) : wpAny (model prog w) A (eqBool .none .none) Q E s := by
  unfold eqBool
  refine wpAny_holding ?_
  rw [if_pos (by decide)]
  exact wpAny_bind (wpAny_rule (wpAny_pure h))
def mixKind (prog : Program) (w : World) : PySem.KeyKind prog w Key where
  is := keyIs
  hash := keyH w
  inj := fun v a b ha hb => by
    rcases keyIs_shape ha with ⟨i, t, rfl, rfl⟩ | ⟨x, t, rfl, rfl⟩ | ⟨rfl, rfl⟩ <;> rcases keyIs_shape hb with ⟨j, u, rfl, e⟩ | ⟨y, u, rfl, e⟩ | ⟨rfl, e⟩ <;>
      first | (cases e; rfl) | cases e
  byValue := fun k v h => by
    rcases keyIs_shape h with ⟨i, t, rfl, rfl⟩ | ⟨x, t, rfl, rfl⟩ | ⟨rfl, rfl⟩ <;> rfl
  pyHash := fun hv h => by
    rcases keyIs_shape hv with ⟨i, t, rfl, rfl⟩ | ⟨x, t, rfl, rfl⟩ | ⟨rfl, rfl⟩
    · exact wpAny_pyHash_int h
    · exact wpAny_pyHash_str h
    · exact hash_non h
  eqBool := fun hu hv h => by
    rcases keyIs_shape hu with ⟨i, t, rfl, rfl⟩ | ⟨x, t, rfl, rfl⟩ | ⟨rfl, rfl⟩ <;> rcases keyIs_shape hv with ⟨j, u, rfl, rfl⟩ | ⟨y, u, rfl, rfl⟩ | ⟨rfl, rfl⟩
    · rw [key_ll] at h; exact wpAny_eqBool_int h
    · exact SeqAt.EqAt.int_str i t y u _ _ _ _ h
    · exact SeqAt.EqAt.int_none i t _ _ _ _ h
    · exact SeqAt.EqAt.str_int x t j u _ _ _ _ h
    · rw [key_rr] at h; exact wpAny_eqBool_str h
    · exact SeqAt.EqAt.str_none x t _ _ _ _ h
    · exact SeqAt.EqAt.none_int j u _ _ _ _ h
    · exact SeqAt.EqAt.none_str y u _ _ _ _ h
    · exact eq_non h
  «strs» := fun k x t v h => by
    rcases keyIs_shape h with ⟨i, u, rfl, e⟩ | ⟨y, u, rfl, e⟩ | ⟨rfl, e⟩
    · exact nomatch e
    · injection e with e1 _
      subst e1
      cases v <;> rfl
    · exact nomatch e
theorem mixKind_int (prog : Program) (w : World) (i : Int) (t : Tok) : (mixKind prog w).is (.inl i) (.int i t) = true := keyIs_int i t
theorem mixKind_str (prog : Program) (w : World) (x : Str) (t : Tok) : (mixKind prog w).is (.inr x) (.str x t) = true := keyIs_str x t
end L2
namespace L2
open PySem PySem.Spec PyProof.Rows
inductive V where
  | non | bl (b : Bool) | int (i : Int) | str (x : Str) | byt (b : Array UInt8) | flt (b : UInt64) | ref (a : Addr) | ty (n : String)
  deriving DecidableEq
def RelV : V → Value → Prop
  | .non, u => u = Value.none
  | .bl b, u => u = Value.bool b
  | .int i, u => ∃ t, u = Value.int i t
  | .str x, u => ∃ t, u = Value.str x t
  | .byt b, u => ∃ t, u = Value.bytes b t
  | .flt b, u => ∃ t, u = Value.float b t
  | .ref a, u => u = Value.ref a
  | .ty n, u => u = Value.type n
abbrev Vals : List V → List Value → Prop := Paired RelV
theorem Vals.length {xs : List V} {us : List Value} (r : Vals xs us) : xs.length = us.length := Paired.length r
theorem Vals.get : ∀ {xs : List V} {us : List Value} {i : Nat} {x : V}, Vals xs us → xs[i]? = some x → ∃ u, us[i]? = some u ∧ RelV x u
  | _, _, _, _, .nil, e => by simp at e
  | _, _, 0, _, .cons r _, e => by simp at e; subst e; exact ⟨_, rfl, r⟩
  | _, _, i + 1, x, .cons _ t, e => by
    obtain ⟨u, h1, h2⟩ := Vals.get (i := i) (x := x) t (by simpa using e)
    exact ⟨u, by simpa using h1, h2⟩
theorem Vals.set {x : V} {u : Value} (r : RelV x u) : ∀ {xs : List V} {us : List Value} (i : Nat), Vals xs us → Vals (xs.set i x) (us.set i u)
  | _, _, _, .nil => .nil
  | _, _, 0, .cons _ t => .cons r t
  | _, _, i + 1, .cons q t => .cons q (Vals.set r i t)
theorem Vals.append : ∀ {xs ys : List V} {us ws : List Value}, Vals xs us → Vals ys ws → Vals (xs ++ ys) (us ++ ws)
  | _, _, _, _, .nil, s => s
  | _, _, _, _, .cons r t, s => .cons r (Vals.append t s)
theorem Vals.take : ∀ {xs : List V} {us : List Value} (n : Nat), Vals xs us → Vals (xs.take n) (us.take n)
  | _, _, 0, _ => .nil
  | _, _, _ + 1, .nil => .nil
  | _, _, n + 1, .cons r t => .cons r (Vals.take n t)
theorem Vals.drop : ∀ {xs : List V} {us : List Value} (n : Nat), Vals xs us → Vals (xs.drop n) (us.drop n)
  | _, _, 0, r => r
  | _, _, _ + 1, .nil => .nil
  | _, _, n + 1, .cons _ t => Vals.drop n t
def RelO : Option V → Option Value → Prop
  | some v, some u => RelV v u
  | none, none => True
  | _, _ => False
def KV {κ : Type} : List (κ × V) → List (κ × Value) → Prop := Paired fun (p : κ × V) (q : κ × Value) => p.1 = q.1 ∧ RelV p.2 q.2
def kV : Key → V
  | .inl i => .int i
  | .inr x => .str x
  | .non => .non
inductive HO where
  /-- a list -/
  | lst (xs : List V)
  /-- a tuple (never changes) -/
  | tup (xs : List V)
  /-- a dict whose keys are ints and texts; one whose keys are tuples of ints and texts (the empty one is both) -/
  | dK (kvs : List (Key × V)) | dT (kvs : List (List Key × V))
  /-- a set of ints: its members, its size -/
  | set (S : Int → Bool) (n : Nat)
  /-- an instance of the class at C, its dict at dx, its attributes -/
  | ins (C dx : Addr) (fs : List (Str × V))
  /-- the dict of the instance at x -/
  | own (x : Addr)
  /-- the dict of an exception -/
  | xd (fs : List (Str × V))
  /-- a bound method, f of x -/
  | met (f x : Addr)
  /-- a range object lo, lo + 1, .. below hi -/
  | rng (lo hi : Int)
  /-- a thing that is known to the object (the script; a dict while a loop walks it): read, never written while it is so -/
  | frz (o : Obj) (u : HO)
  /-- a code object's table -/
  | tbl (ps : Array Value)
  /-- any other thing, by what is true of its one object (a def of one's own: SetO a S n := HO.ext fun h => ..) -/
  | ext (φ : Heap → Prop)
abbrev Hp := Addr → Option HO
def upd (H : Hp) (a : Addr) (o : HO) : Hp := fun b => if b = a then some o else H b
theorem upd_same {H : Hp} {a : Addr} {o : HO} : upd H a o a = some o := by unfold upd; rw [if_pos rfl]
theorem upd_ne {H : Hp} {a b : Addr} {o : HO} (h : b ≠ a) : upd H a o b = H b := by unfold upd; rw [if_neg h]
theorem ne_of {H : Hp} {a b : Addr} {o u : HO} (h : H a = some o) (h' : H b = some u) (d : o ≠ u) : a ≠ b := by
  intro e; subst e; rw [h] at h'; exact d (Option.some.inj h')
theorem ne_of_none {H : Hp} {a b : Addr} {o : HO} (h : H a = some o) (h' : H b = none) : a ≠ b := by
  intro e; subst e; rw [h] at h'; cases h'
section
variable (P : Program) (w : World)
def ObjOk (H : Hp) (h : Heap) (a : Addr) : HO → Prop
  | .lst xs => xs.length ≤ sizeLine ∧ ∃ (its : List Value) (n : Nat), Vals xs its ∧ h.get? a = some { cls := .type "list", data := .seq its.toArray n }
  | .tup xs => xs.length ≤ sizeLine ∧ ∃ its : List Value, Vals xs its ∧ IsTup h a its.toArray
  | .dK kvs => kvs.length ≤ sizeLine ∧ (a == sysModules) = false ∧ ∃ vs, KV kvs vs ∧ h.DictOf (mixKind P w) a vs
  | .dT kvs => kvs.length ≤ sizeLine ∧ (a == sysModules) = false ∧ ∃ xs : List (List Key × Addr × Value),
      Paired (fun (p : List Key × V) (q : List Key × Addr × Value) => p.1 = q.1 ∧ H q.2.1 = some (.tup (p.1.map kV)) ∧ RelV p.2 q.2.2) kvs xs ∧
      ∃ o es ep, h.get? a = some o ∧ o.ExactDict ∧ o.data = .dict es ep ∧ es.toList = xs.map (entryOfKey (tupleKind (mixKind P w))) ∧ (xs.map (·.1)).Nodup
  | .set S n => h.SetOf (intKind P w) a S n
  | .ins C dx fs => H dx = some (.own a) ∧ fs.length ≤ 1000 ∧ dx ≠ a ∧ h.get? a = some (PySem.W.instObj C dx) ∧
      ∃ mA, h.Ns1 dx mA ∧ (∀ f, RelO (fs.lookup f) (mA f)) ∧ PySem.Within mA (fs.map (·.1))
  | .own _ => ∃ o, h.get? a = some o
  | .xd fs => ∃ mA, h.Ns1 a mA ∧ ∀ f, RelO (fs.lookup f) (mA f)
  | .rng lo hi => ∃ t u v, h.get? a = some { cls := .type "range", data := .fields #[.int lo t, .int hi u, .int 1 v] }
  | .frz o u => h.get? a = some o ∧ ObjOk H h a u
  | .tbl ps => h.get? a = some { cls := .none, data := .fields ps }
  | .met f x => h.get? a = some (PySem.W.methodObj (.ref f) (.ref x))
  | .ext φ => φ h ∧ (∃ o, h.get? a = some o) ∧ ∀ h1 h2 : Heap, φ h1 → (∀ o, h1.get? a = some o → h2.get? a = some o) → φ h2
def HOk (H : Hp) (h : Heap) : Prop := ∀ a o, H a = some o → ObjOk P w H h a o
end
section
variable {P : Program} {w : World} {H H' : Hp} {h h' : Heap} {a : Addr} {o : HO}
theorem ObjOk.lt (x : ObjOk P w H h a o) : a < h.objs.size := by
  cases o with
  | lst xs => obtain ⟨_, _, _, _, e⟩ := x; exact Heap.lt_size e
  | tup xs => obtain ⟨_, _, _, p⟩ := x; exact p.lt
  | dK kvs => obtain ⟨_, _, _, _, o, _, _, e, _⟩ := x; exact Heap.lt_size e
  | dT kvs => obtain ⟨_, _, _, _, o, _, _, e, _⟩ := x; exact Heap.lt_size e
  | set S n => obtain ⟨o, _, _, _, e, _⟩ := x; exact Heap.lt_size e
  | ins C dx fs => obtain ⟨_, _, _, e, _⟩ := x; exact Heap.lt_size e
  | own y => obtain ⟨_, e⟩ := x; exact Heap.lt_size e
  | xd fs => obtain ⟨_, ⟨_, _, _, e, _⟩, _⟩ := x; exact Heap.lt_size e
  | rng lo hi => obtain ⟨_, _, _, e⟩ := x; exact Heap.lt_size e
  | frz ob u => obtain ⟨e, _⟩ := x; exact Heap.lt_size e
  | tbl ps => exact Heap.lt_size (show h.get? a = some _ from x)
  | met f y => exact Heap.lt_size (show h.get? a = some _ from x)
  | ext φ => obtain ⟨_, ⟨_, e⟩, _⟩ := x; exact Heap.lt_size e
theorem Paired.mapP {α β : Type} {F G : α → β → Prop} : ∀ {l₁ : List α} {l₂ : List β}, Paired F l₁ l₂ → (∀ a b, F a b → G a b) → Paired G l₁ l₂
  | _, _, .nil, _ => .nil
  | _, _, .cons r t, f => .cons (f _ _ r) (Paired.mapP t f)
theorem ObjOk.stay (x : ObjOk P w H h a o) (k : ∀ b u, (b = a ∨ H b = some (.own a)) → h.get? b = some u → h'.get? b = some u)
    (ho : ∀ b, H b = some (.own a) → H' b = some (.own a)) (ht : ∀ b xs, H b = some (.tup xs) → H' b = some (.tup xs)) : ObjOk P w H' h' a o := by
  induction o with
  | lst xs => obtain ⟨z, its, n, r, e⟩ := x; exact ⟨z, its, n, r, k _ _ (.inl rfl) e⟩
  | tup xs => obtain ⟨z, its, r, ob, e, c⟩ := x; exact ⟨z, its, r, ob, k _ _ (.inl rfl) e, c⟩
  | dK kvs => obtain ⟨z, y, vs, r, ob, es, ep, e, c⟩ := x; exact ⟨z, y, vs, r, ob, es, ep, k _ _ (.inl rfl) e, c⟩
  | dT kvs =>
    obtain ⟨z, y, xs, r, ob, es, ep, e, c⟩ := x
    exact ⟨z, y, xs, Paired.mapP r fun p q z => ⟨z.1, ht _ _ z.2.1, z.2.2⟩, ob, es, ep, k _ _ (.inl rfl) e, c⟩
  | set S n => obtain ⟨ob, es, ep, t, e, c⟩ := x; exact ⟨ob, es, ep, t, k _ _ (.inl rfl) e, c⟩
  | ins C dx fs =>
    obtain ⟨d, z, ne, e, mA, ⟨od, es, ep, e2, c⟩, r⟩ := x
    exact ⟨ho _ d, z, ne, k _ _ (.inl rfl) e, mA, ⟨od, es, ep, k _ _ (.inr d) e2, c⟩, r⟩
  | own y => obtain ⟨ob, e⟩ := x; exact ⟨ob, k _ _ (.inl rfl) e⟩
  | xd fs => obtain ⟨mA, ⟨od, es, ep, e, c⟩, r⟩ := x; exact ⟨mA, ⟨od, es, ep, k _ _ (.inl rfl) e, c⟩, r⟩
  | rng lo hi => obtain ⟨t, u, v, e⟩ := x; exact ⟨t, u, v, k _ _ (.inl rfl) e⟩
  | frz ob u ih => obtain ⟨e, q⟩ := x; exact ⟨k _ _ (.inl rfl) e, ih q⟩
  | tbl ps =>
    have e : h.get? a = some { cls := .none, data := .fields ps } := x
    show h'.get? a = some { cls := .none, data := .fields ps }
    exact k a _ (.inl rfl) e
  | met f y =>
    have e : h.get? a = some (PySem.W.methodObj (.ref f) (.ref y)) := x
    show h'.get? a = some (PySem.W.methodObj (.ref f) (.ref y))
    exact k a _ (.inl rfl) e
  | ext φ => obtain ⟨p, ⟨o, e⟩, st⟩ := x; exact ⟨st _ _ p fun o q => k _ _ (.inl rfl) q, ⟨o, k _ _ (.inl rfl) e⟩, st⟩
theorem HOk.lt (x : HOk P w H h) (e : H a = some o) : a < h.objs.size := (x a o e).lt
theorem HOk.fresh (x : HOk P w H h) (e : h.objs.size ≤ a) : H a = none := by
  cases q : H a with
  | none => rfl
  | some u => exact absurd (Nat.lt_of_lt_of_le (x.lt q) e) (Nat.lt_irrefl _)
theorem HOk.kept (x : HOk P w H h) (k : ∀ b u, h.get? b = some u → h'.get? b = some u) : HOk P w H h' := fun a o e =>
  (x a o e).stay (fun b u _ q => k b u q) (fun _ q => q) fun _ _ q => q
theorem HOk.laid (x : HOk P w H h) (k : ∀ b u, h.get? b = some u → h'.get? b = some u) (hp : h.objs.size ≤ a) (new : ObjOk P w (upd H a o) h' a o) : HOk P w (upd H a o) h' := fun b u e => by
  have hn := x.fresh hp
  by_cases hb : b = a
  · subst hb; rw [upd_same] at e; cases e; exact new
  · rw [upd_ne hb] at e
    exact (x b u e).stay (fun c v _ q => k c v q) (fun c q => by rw [upd_ne (ne_of_none q hn)]; exact q) fun c xs q => by rw [upd_ne (ne_of_none q hn)]; exact q
end
def Rd (H : Hp) (a : Addr) (u : HO) : Prop := H a = some u ∨ ∃ o, H a = some (.frz o u)
theorem Rd.of {H : Hp} {a : Addr} {u : HO} (h : H a = some u) : Rd H a u := .inl h
theorem Rd.ok {P : Program} {w : World} {H : Hp} {h : Heap} {a : Addr} {u : HO} (r : Rd H a u) (x : HOk P w H h) : ObjOk P w H h a u := by
  rcases r with r | ⟨o, r⟩
  · exact x a u r
  · obtain ⟨_, q⟩ := x a _ r
    exact q
def Mut : Option HO → Prop
  | some (.lst _) => True
  | some (.dK _) => True
  | some (.dT _) => True
  | some (.set _ _) => True
  | some (.ins _ _ _) => True
  | some (.ext _) => True
  | _ => False
section
variable {P : Program} {w : World} {H : Hp} {h h' : Heap} {x e : Addr} {o' : HO}
theorem HOk.write (ok : HOk P w H h) (mu : Mut (H x)) (he : e = x ∨ H e = some (.own x)) (k : ∀ b u, b ≠ e → h.get? b = some u → h'.get? b = some u) (heo : ∃ u, h'.get? e = some u)
    (new : ObjOk P w (upd H x o') h' x o') : HOk P w (upd H x o') h' := fun b u q => by
  have nown : ∀ c y, H c = some (.own y) → c ≠ x := fun c y r z => by subst z; rw [r] at mu; exact mu
  have ntup : ∀ c xs, H c = some (.tup xs) → c ≠ x := fun c xs r z => by subst z; rw [r] at mu; exact mu
  by_cases hb : b = x
  · subst hb; rw [upd_same] at q; cases q; exact new
  · rw [upd_ne hb] at q
    by_cases hbe : b = e
    · have q' : H b = some (.own x) := by
        rcases he with z | z
        · exact absurd (hbe.trans z) hb
        · rw [hbe]; exact z
      rw [q] at q'; cases q'
      obtain ⟨v, hv⟩ := heo
      exact ⟨v, by rw [hbe]; exact hv⟩
    · refine (ok b u q).stay (fun c v hc r => k c v ?_ r) (fun c r => by rw [upd_ne (nown c b r)]; exact r) fun c xs r => by rw [upd_ne (ntup c xs r)]; exact r
      rcases hc with rfl | hc
      · exact hbe
      · rintro rfl
        rcases he with z | z
        · exact nown c b hc z
        · rw [hc] at z; cases z; exact hb rfl
end
structure Un (fs ex : List Addr) (H H' : Hp) (h h' : Heap) : Prop where
  keep : ∀ b o, h.get? b = some o → H b = none → b ∉ fs → b ∉ ex → h'.get? b = some o
  slot : ∀ b o, h.get? b = some o → H b = none → b ∈ fs → b ∉ ex → ∃ sl, h'.get? b = some { o with slots := sl }
  free : ∀ b o, h.get? b = some o → H b = none → b ∉ ex → H' b = none
  there : ∀ b o, h.get? b = some o → b ∉ ex → ∃ o', h'.get? b = some o'
  tups : ∀ b xs, H b = some (.tup xs) → H' b = some (.tup xs)
  frzs : ∀ b o u, H b = some (.frz o u) → H' b = some (.frz o u)
  tbls : ∀ b ps, H b = some (.tbl ps) → ∃ more, H' b = some (.tbl (ps ++ more))
section
variable {fs fs' ex ex' : List Addr} {H H1 H2 : Hp} {h h1 h2 h' : Heap} {a x e : Addr} {o : HO}
theorem Un.any (u : Un fs ex H H1 h h1) {b : Addr} {ob : Obj} (q : h.get? b = some ob) (n : H b = none) (hx : b ∉ ex) : ∃ sl, h1.get? b = some { ob with slots := sl } := by
  by_cases hb : b ∈ fs
  · exact u.slot b ob q n hb hx
  · exact ⟨ob.slots, u.keep b ob q n hb hx⟩
theorem Un.trans (a : Un fs ex H H1 h h1) (b : Un fs ex H1 H2 h1 h2) : Un fs ex H H2 h h2 where
  keep := fun c ob q n hc hx => b.keep c ob (a.keep c ob q n hc hx) (a.free c ob q n hx) hc hx
  slot := fun c ob q n hc hx => by
    obtain ⟨sl, e1⟩ := a.slot c ob q n hc hx
    obtain ⟨sl', e2⟩ := b.slot c _ e1 (a.free c ob q n hx) hc hx
    exact ⟨sl', e2⟩
  free := fun c ob q n hx => by
    obtain ⟨o', e1⟩ := a.there c ob q hx
    exact b.free c o' e1 (a.free c ob q n hx) hx
  there := fun c ob q hx => by
    obtain ⟨o', e1⟩ := a.there c ob q hx
    exact b.there c o' e1 hx
  tups := fun c xs q => b.tups c xs (a.tups c xs q)
  frzs := fun c ob xs q => b.frzs c ob xs (a.frzs c ob xs q)
  tbls := fun c ps q => by
    obtain ⟨m1, e1⟩ := a.tbls c ps q
    obtain ⟨m2, e2⟩ := b.tbls c _ e1
    exact ⟨m1 ++ m2, by rw [e2, Array.append_assoc]⟩
theorem Un.kept (k : ∀ b u, h.get? b = some u → h'.get? b = some u) : Un fs ex H H h h' :=
  ⟨fun b ob q _ _ _ => k b ob q, fun b ob q _ _ _ => ⟨ob.slots, k b ob q⟩, fun _ _ _ n _ => n, fun b ob q _ => ⟨ob, k b ob q⟩, fun _ _ q => q, fun _ _ _ q => q, fun _ ps q => ⟨#[], by rw [q]; simp⟩⟩
theorem Un.refl : Un fs ex H H h h := Un.kept fun _ _ q => q
theorem Un.laid (k : ∀ b u, h.get? b = some u → h'.get? b = some u) (hp : h.objs.size ≤ a) (hn : H a = none) : Un fs ex H (upd H a o) h h' where
  keep := fun b u q _ _ _ => k b u q
  slot := fun b u q _ _ _ => ⟨u.slots, k b u q⟩
  free := fun b u q n _ => by rw [upd_ne (Nat.ne_of_lt (Nat.lt_of_lt_of_le (Heap.lt_size q) hp))]; exact n
  there := fun b u q _ => ⟨u, k b u q⟩
  tups := fun b xs q => by rw [upd_ne (ne_of_none q hn)]; exact q
  frzs := fun b u xs q => by rw [upd_ne (ne_of_none q hn)]; exact q
  tbls := fun b ps q => ⟨#[], by rw [upd_ne (ne_of_none q hn), q]; simp⟩
theorem Un.write (mu : Mut (H x)) (he : e = x ∨ H e = some (.own x)) (k : ∀ b u, b ≠ e → h.get? b = some u → h'.get? b = some u) (heo : ∃ u, h'.get? e = some u) : Un fs ex H (upd H x o) h h' := by
  have hx : ∀ b, H b = none → b ≠ x := fun b n z => by subst z; rw [n] at mu; exact mu
  have hb : ∀ b, H b = none → b ≠ e := fun b n z => by
    subst z
    rcases he with r | r
    · exact hx b n r
    · rw [n] at r; cases r
  have hm : ∀ b u, H b = some u → ¬ Mut (some u) → b ≠ x := fun b u q nm z => by subst z; rw [q] at mu; exact nm mu
  refine ⟨fun b u q n _ _ => k b u (hb b n) q, fun b u q n _ _ => ⟨u.slots, k b u (hb b n) q⟩, fun b u q n _ => by rw [upd_ne (hx b n)]; exact n, fun b u q _ => ?_,
    fun b xs q => by rw [upd_ne (hm b _ q fun z => z)]; exact q, fun b u xs q => by rw [upd_ne (hm b _ q fun z => z)]; exact q, fun b ps q => ⟨#[], by rw [upd_ne (hm b _ q fun z => z), q]; simp⟩⟩
  by_cases hbe : b = e
  · subst hbe; exact heo
  · exact ⟨u, k b u hbe q⟩
theorem Un.mono (u : Un fs ex H H1 h h1) (hs : ∀ b ∈ fs, b ∈ fs') (hx : ∀ b ∈ ex, b ∈ ex') : Un fs' ex' H H1 h h1 :=
  ⟨fun b ob q n hb he => u.keep b ob q n (fun z => hb (hs b z)) fun z => he (hx b z), fun _ _ q n _ he => u.any q n fun z => he (hx _ z), fun b ob q n he => u.free b ob q n fun z => he (hx b z), fun b ob q he => u.there b ob q fun z => he (hx b z), u.tups, u.frzs, u.tbls⟩
end
def trk (h : Heap) (H : Hp) : List Addr := (List.range h.objs.size).filter fun a => (H a).isSome
def hidT (h : Heap) (H : Hp) : Heap := PySem.W.hideAll h (trk h H)
theorem hidT_size (h : Heap) (H : Hp) : (hidT h H).objs.size = h.objs.size := PySem.W.hideAll_size _ _
theorem hidT_get {h : Heap} {H : Hp} {b : Addr} {o : Obj} (e : h.get? b = some o) (n : H b = none) : (hidT h H).get? b = some o :=
  PySem.W.hideAll_get _ e fun hm => by
    have q : (H b).isSome = true := (List.mem_filter.mp hm).2
    rw [n] at q; simp at q
theorem of_hidT {h : Heap} {H : Hp} {b : Addr} {o : Obj} (e : (hidT h H).get? b = some o) : h.get? b = some o ∧ H b = none := by
  have e' : h.get? b = some o := PySem.W.of_hideAll (trk h H) e
  refine ⟨e', ?_⟩
  cases q : H b with
  | none => rfl
  | some x =>
    have hm : b ∈ trk h H := List.mem_filter.mpr ⟨List.mem_range.mpr (Heap.lt_size e'), by simp [q]⟩
    have z : (hidT h H).get? b = none := PySem.W.hideAll_none (trk h H) hm
    rw [z] at e; cases e
def allNews (g h : Heap) (L : Addr) : List (Addr × Obj) := (List.range h.objs.size).filterMap fun a => if a = L ∨ (g.get? a).isSome = true then none else (h.get? a).map fun o => (a, o)
def rest (g h : Heap) (L d : Addr) : List (Addr × Obj) := (allNews g h L).filter fun p => decide (p.1 ≠ d)
end L2
namespace L2
open PySem PySem.Spec PyProof.Rows
structure Mod (K : PySem.W.Frag) (mg : Str → Option Value) (base : Heap) : Prop where
  kin : K.In base
  glob : base.Ns mainGlobals mg
  blt : ∃ mb, base.Ns builtinsNs mb ∧ ∀ x : Str, x ≠ "__name__" → mb x = bootBuiltins x
  nolimit : base.NoLimit
structure Cx where
  prog : Program
  w : World
  K : PySem.W.Frag
  mg : Str → Option Value
  base : Heap
  A : Around
  N : List Str
  s₀ : Shared
  H₀ : Hp
  env : Env
  outer : List Env
  stack : List Env
  ex : List Addr
  fn : Str → Bool
  calm : Bool
  pn : List (Addr × Obj)
  xe : Value → Shared → Prop
def frs (l : List Env) : List Addr := l.filterMap (·.frame)
abbrev Cx.fs (X : Cx) : List Addr := frs X.outer
def Vis (sc : Scope) (x : Str) : Prop := sc.names.lookup x = some .local ∨ sc.names.lookup x = some .cell ∨ sc.names.lookup x = some .free
def Loc (sc : Scope) (x : Str) : Prop := sc.names.lookup x = some .local ∨ sc.names.lookup x = some .cell
def Look (env : Env) (h : Heap) (m : Str → Option Value) (x : Str) (u : Value) : Prop :=
  (env.kindOf x = some .local ∧ m x = some u) ∨ ((env.kindOf x = some .cell ∨ env.kindOf x = some .free) ∧ ∃ c, env.cells.lookup x = some c ∧ h.IsCell c (some u))
structure Cx.Ok (X : Cx) : Prop where
  mod : Mod X.K X.mg X.base
  kind : X.env.scope.kind = .function
  glob : X.env.globals = mainGlobals
  blt : X.env.builtins = builtinsNs
  above : X.s₀.heap.objs.size ≤ X.env.locals
  inj : ∀ x y c, X.env.cells.lookup x = some c → X.env.cells.lookup y = some c → x = y
  has : ∀ x, (X.env.kindOf x = some .cell ∨ X.env.kindOf x = some .free) → ∃ c, X.env.cells.lookup x = some c
  cab : ∀ x c, X.fn x = true → X.env.cells.lookup x = some c → X.s₀.heap.objs.size ≤ c
  hd : X.calm = true → X.A.handled = none
  frames : X.A.frames = some X.stack
  stk : X.stack = X.outer ∨ (X.stack = X.env :: X.outer ∧ X.env.frame = some X.env.locals)
  exf : ∀ b ∈ X.ex, b ≠ X.env.locals ∧ ∀ x c, X.env.cells.lookup x = some c → c ≠ b
  bs : ∀ b o, X.base.get? b = some o → X.s₀.heap.get? b = some o ∧ X.H₀ b = none
  bsz : X.base.objs.size ≤ X.s₀.heap.objs.size
  noex : ∀ b o, X.base.get? b = some o → b ∉ X.ex
  exfs : ∀ b ∈ X.ex, b ∉ X.fs
  funs : X.s₀.heap.FunFrames X.base X.outer
  frf : ∀ b ∈ X.fs, X.H₀ b = none
structure Inv (X : Cx) (pins : List (Addr × Obj)) (σ : List (Option V)) (H : Hp) (s : Shared) : Prop where
  ok : X.Ok
  os : s.os = X.s₀.os
  bare : AllBare s.gens
  base : Un X.fs X.ex X.H₀ H X.s₀.heap s.heap
  loc : ∃ m, s.heap.Ns X.env.locals m ∧ ∀ (i : Nat) (x : Str) (v : V), X.N[i]? = some x → σ[i]? = some (some v) → Vis X.env.scope x → ∃ u, RelV v u ∧ Look X.env s.heap m x u
  cell : ∀ x c, X.env.cells.lookup x = some c → ∃ v, s.heap.IsCell c v
  free : H X.env.locals = none
  freeC : ∀ x c, X.env.cells.lookup x = some c → H c = none
  pin : ∀ p ∈ X.pn ++ pins, s.heap.get? p.1 = some p.2 ∧ H p.1 = none ∧ p.1 ≠ X.env.locals ∧ p.1 ∉ X.fs ∧ ∀ v, p.2.data ≠ .cell v
  hok : HOk X.prog X.w H s.heap
  len : σ.length = X.N.length
section
variable {X : Cx} {pins : List (Addr × Obj)} {σ : List (Option V)} {H H' : Hp} {s : Shared} {h' : Heap}
theorem Cx.Ok.nofr (ok : X.Ok) {b : Addr} {o : Obj} (e : X.base.get? b = some o) : b ∉ X.fs := fun hb => by
  have := (ok.funs.mem hb).1
  rw [e] at this; cases this
theorem Inv.bs (I : Inv X pins σ H s) : ∀ b o, X.base.get? b = some o → s.heap.get? b = some o ∧ H b = none := fun b o e =>
  ⟨I.base.keep b o (I.ok.bs b o e).1 (I.ok.bs b o e).2 (I.ok.nofr e) (I.ok.noex b o e), I.base.free b o (I.ok.bs b o e).1 (I.ok.bs b o e).2 (I.ok.noex b o e)⟩
theorem Inv.bk (I : Inv X pins σ H s) : ∀ b o, X.base.get? b = some o → s.heap.get? b = some o := fun b o e => (I.bs b o e).1
theorem Inv.mod (I : Inv X pins σ H s) : Mod X.K X.mg X.base := I.ok.mod
theorem Inv.kIn (I : Inv X pins σ H s) : X.K.In s.heap := I.ok.mod.kin.keeps I.bk
theorem Inv.nolimit (I : Inv X pins σ H s) : s.heap.NoLimit := I.ok.mod.nolimit.keeps I.bk
theorem Inv.fr (I : Inv X pins σ H s) : ∃ m, Fr X.base X.env.locals s.heap m :=
  let ⟨m, hn, _⟩ := I.loc
  ⟨m, hn, I.bk, Nat.le_trans I.ok.bsz I.ok.above⟩
theorem Inv.lt (I : Inv X pins σ H s) : X.env.locals < s.heap.objs.size := let ⟨_, hn, _⟩ := I.loc; hn.lt
theorem Inv.sz (I : Inv X pins σ H s) : X.s₀.heap.objs.size ≤ s.heap.objs.size := Nat.le_trans I.ok.above (Nat.le_of_lt I.lt)
theorem Inv.nofs (I : Inv X pins σ H s) {a : Addr} (h : s.heap.objs.size ≤ a) : a ∉ X.fs := fun hb => by
  obtain ⟨_, o, ho, _⟩ := I.ok.funs.mem hb
  exact absurd (Nat.lt_of_lt_of_le (Heap.lt_size ho) (Nat.le_trans I.sz h)) (Nat.lt_irrefl _)
theorem Inv.cne (I : Inv X pins σ H s) : ∀ x c, X.env.cells.lookup x = some c → c ≠ X.env.locals := fun x c e z => by
  obtain ⟨v, o, ho, hd⟩ := I.cell x c e
  obtain ⟨m, ⟨o', es, ep, ho', hd', _⟩, _⟩ := I.loc
  rw [z, ho'] at ho; cases ho; rw [hd'] at hd; cases hd
theorem Inv.funs (I : Inv X pins σ H s) : s.heap.FunFrames X.base X.outer := by
  have all : ∀ (l : List Env), (∀ b ∈ frs l, b ∈ X.fs) → X.s₀.heap.FunFrames X.base l → s.heap.FunFrames X.base l := by
    intro l
    induction l with
    | nil => intro _ _; trivial
    | cons env r ih =>
      intro hs hl
      obtain ⟨hk, ⟨L, o, hf, hn, ho, hd⟩, hr⟩ := hl
      have hL : L ∈ X.fs := hs L (by unfold frs; rw [List.filterMap_cons, hf]; exact List.mem_cons_self)
      obtain ⟨sl, e⟩ := I.base.slot L o ho (I.ok.frf L hL) hL fun z => I.ok.exfs L z hL
      exact ⟨hk, ⟨L, _, hf, hn, e, hd⟩, ih (fun b hb => hs b (by unfold frs; rw [List.filterMap_cons, hf]; exact List.mem_cons_of_mem _ hb)) hr⟩
  exact all X.outer (fun _ hb => hb) I.ok.funs
theorem Inv.stack (I : Inv X pins σ H s) : s.heap.FunFrames X.base X.stack := by
  rcases I.ok.stk with e | ⟨e, hf⟩
  · rw [e]; exact I.funs
  · rw [e]
    obtain ⟨m, hn, _⟩ := I.loc
    refine .cons (by rw [I.ok.kind]; decide) hf hn ?_ I.funs
    exact Heap.get?_none_of_le (Nat.le_trans I.ok.bsz I.ok.above)
theorem Inv.stkSub (I : Inv X pins σ H s) : ∀ b ∈ frs X.stack, b ∈ X.env.locals :: X.fs := fun b hb => by
  rcases I.ok.stk with e | ⟨e, hf⟩
  · rw [e] at hb; exact List.mem_cons_of_mem _ hb
  · rw [e] at hb
    unfold frs at hb
    rw [List.filterMap_cons, hf] at hb
    exact hb
theorem Inv.stkFree (I : Inv X pins σ H s) : ∀ b ∈ frs X.stack, H b = none := fun b hb => by
  rcases List.mem_cons.mp (I.stkSub b hb) with e | hb
  · rw [e]; exact I.free
  · obtain ⟨_, o, ho, _⟩ := I.ok.funs.mem hb
    exact I.base.free b o ho (I.ok.frf b hb) fun z => I.ok.exfs b z hb
theorem Inv.step {g' : Array GenState} {t' : Nat} {d' : Drawn} {ch : List Addr} (I : Inv X pins σ H s)
    (hch : ∀ b ∈ ch, (b ∈ X.ex ∨ X.s₀.heap.objs.size ≤ b) ∧ b ≠ X.env.locals ∧ (∀ x c, X.env.cells.lookup x = some c → c ≠ b) ∧ ∀ p ∈ X.pn ++ pins, p.1 ≠ b)
    (keep : ∀ b o, b ≠ X.env.locals → b ∉ X.fs → b ∉ ch → s.heap.get? b = some o → H b = none → h'.get? b = some o)
    (slot : ∀ b o, b ≠ X.env.locals → b ∈ X.fs → b ∉ ch → s.heap.get? b = some o → H b = none → ∃ sl, h'.get? b = some { o with slots := sl }) (free : ∀ b o, b ∉ ch → s.heap.get? b = some o → H b = none → H' b = none)
    (there : ∀ b o, b ∉ ch → s.heap.get? b = some o → ∃ o', h'.get? b = some o')
    (tups : ∀ b xs, H b = some (.tup xs) → H' b = some (.tup xs)) (frzs : ∀ b o u, H b = some (.frz o u) → H' b = some (.frz o u)) (tbls : ∀ b ps, H b = some (.tbl ps) → ∃ more, H' b = some (.tbl (ps ++ more)))
    (ns : ∀ m, s.heap.Ns X.env.locals m → h'.Ns X.env.locals m) (hok : HOk X.prog X.w H' h') (hg : AllBare g') :
    Inv X pins σ H' { s with heap := h', gens := g', drawn := d', toks := t' } := by
  have neL : ∀ b o, X.s₀.heap.get? b = some o → b ≠ X.env.locals := fun b o e => Nat.ne_of_lt (Nat.lt_of_lt_of_le (Heap.lt_size e) I.ok.above)
  have neC : ∀ b o, X.s₀.heap.get? b = some o → b ∉ X.ex → b ∉ ch := fun b o e hx hb => by
    rcases (hch b hb).1 with z | z
    · exact hx z
    · exact absurd (Nat.lt_of_lt_of_le (Heap.lt_size e) z) (Nat.lt_irrefl _)
  have cellK : ∀ x c, X.env.cells.lookup x = some c → ∀ v, s.heap.IsCell c v → h'.IsCell c v := fun x c e v ⟨o, ho, hd⟩ => by
    have nch : c ∉ ch := fun z => (hch c z).2.2.1 x c e rfl
    by_cases hc : c ∈ X.fs
    · obtain ⟨sl, q⟩ := slot c o (I.cne x c e) hc nch ho (I.freeC x c e)
      exact ⟨_, q, hd⟩
    · exact ⟨o, keep c o (I.cne x c e) hc nch ho (I.freeC x c e), hd⟩
  refine ⟨I.ok, I.os, hg, ⟨fun b o e n hb hx => ?_, fun b o e n hb hx => ?_, fun b o e n hx => ?_, fun b o e hx => ?_, fun b xs e => tups b xs (I.base.tups b xs e), fun b o xs e => frzs b o xs (I.base.frzs b o xs e), fun b ps e => ?_⟩, ?_, fun x c e => ?_, ?_, fun x c e => ?_, fun p hp => ?_, hok, I.len⟩
  · exact keep b o (neL b o e) hb (neC b o e hx) (I.base.keep b o e n hb hx) (I.base.free b o e n hx)
  · obtain ⟨sl, e1⟩ := I.base.slot b o e n hb hx
    obtain ⟨sl', e2⟩ := slot b _ (neL b o e) hb (neC b o e hx) e1 (I.base.free b o e n hx)
    exact ⟨sl', e2⟩
  · obtain ⟨o', e1⟩ := I.base.there b o e hx
    exact free b o' (neC b o e hx) e1 (I.base.free b o e n hx)
  · obtain ⟨o', e1⟩ := I.base.there b o e hx
    exact there b o' (neC b o e hx) e1
  · obtain ⟨m1, e1⟩ := I.base.tbls b ps e
    obtain ⟨m2, e2⟩ := tbls b _ e1
    exact ⟨m1 ++ m2, by rw [e2, Array.append_assoc]⟩
  · obtain ⟨m, hn, hl⟩ := I.loc
    refine ⟨m, ns m hn, fun i x v e1 e2 e3 => ?_⟩
    obtain ⟨u, r, l⟩ := hl i x v e1 e2 e3
    refine ⟨u, r, ?_⟩
    rcases l with l | ⟨k, c, e, z⟩
    · exact .inl l
    · exact .inr ⟨k, c, e, cellK x c e _ z⟩
  · obtain ⟨v, z⟩ := I.cell x c e
    exact ⟨v, cellK x c e v z⟩
  · obtain ⟨m, ⟨o, _, _, ho, _⟩, _⟩ := I.loc
    exact free _ o (fun z => (hch _ z).2.1 rfl) ho I.free
  · obtain ⟨v, o, ho, hd⟩ := I.cell x c e
    exact free c o (fun z => (hch c z).2.2.1 x c e rfl) ho (I.freeC x c e)
  · obtain ⟨e, n, ne, nf, d⟩ := I.pin p hp
    have nch : p.1 ∉ ch := fun z => (hch p.1 z).2.2.2 p hp rfl
    exact ⟨keep p.1 p.2 ne nf nch e n, free p.1 p.2 nch e n, ne, nf, d⟩
theorem Inv.un {t' : Nat} (I : Inv X pins σ H s) (u : Un X.fs [] H H' s.heap h') (hok : HOk X.prog X.w H' h') : Inv X pins σ H' { s with heap := h', toks := t' } := by
  obtain ⟨m, ⟨o, es, ep, ho, r⟩, _⟩ := id I.loc
  obtain ⟨sl, hL⟩ := u.any ho I.free (by simp)
  exact I.step (g' := s.gens) (d' := s.drawn) (ch := []) (fun _ z => nomatch z) (fun b o _ hb _ e n => u.keep b o e n hb (by simp)) (fun b o _ hb _ e n => u.slot b o e n hb (by simp)) (fun b o _ e n => u.free b o e n (by simp)) (fun b o _ e => u.there b o e (by simp)) u.tups u.frzs u.tbls (fun m' hm => by
    obtain ⟨o', es', ep', ho', r'⟩ := hm
    rw [ho] at ho'; cases ho'
    exact ⟨_, es', ep', hL, r'⟩) hok I.bare
theorem Inv.call {g' : Array GenState} {t' : Nat} {d' : Drawn} {ch : List Addr} (I : Inv X pins σ H s) (u : Un (frs X.stack) ch H H' s.heap h') (hok : HOk X.prog X.w H' h') (hg : AllBare g')
    (hch : ∀ b ∈ ch, (b ∈ X.ex ∨ X.s₀.heap.objs.size ≤ b) ∧ b ≠ X.env.locals ∧ (∀ x c, X.env.cells.lookup x = some c → c ≠ b) ∧ ∀ p ∈ X.pn ++ pins, p.1 ≠ b) :
    Inv X pins σ H' { s with heap := h', gens := g', drawn := d', toks := t' } := by
  obtain ⟨m, ⟨o, es, ep, ho, r⟩, _⟩ := id I.loc
  obtain ⟨sl, hL⟩ := u.any ho I.free fun z => (hch _ z).2.1 rfl
  exact I.step (ch := ch) hch (fun b o hL hb hc e n => u.keep b o e n (fun z => (List.mem_cons.mp (I.stkSub b z)).elim hL hb) hc) (fun b o _ _ hc e n => u.any e n hc) (fun b o hc e n => u.free b o e n hc) (fun b o hc e => u.there b o e hc) u.tups u.frzs u.tbls (fun m' hm => by
    obtain ⟨o', es', ep', ho', r'⟩ := hm
    rw [ho] at ho'; cases ho'
    exact ⟨_, es', ep', hL, r'⟩) hok hg
theorem Inv.turned {t' : Nat} {it : Addr} (I : Inv X pins σ H s) (k : ∀ b o, b ≠ it → s.heap.get? b = some o → h'.get? b = some o) (hn : H it = none) (hL : it ≠ X.env.locals)
    (h1 : it ∈ X.ex ∨ X.s₀.heap.objs.size ≤ it) (h2 : ∀ x c, X.env.cells.lookup x = some c → c ≠ it) (h3 : ∀ p ∈ X.pn ++ pins, p.1 ≠ it) : Inv X pins σ H { s with heap := h', toks := t' } := by
  have nit : ∀ b u, H b = some u → b ≠ it := fun b u e z => by rw [z, hn] at e; cases e
  refine I.step (g' := s.gens) (d' := s.drawn) (ch := [it]) (fun b hb => ?_) (fun b o _ _ hc e _ => k b o (fun z => hc (by simp [z])) e) (fun b o _ _ hc e _ => ⟨o.slots, k b o (fun z => hc (by simp [z])) e⟩) (fun _ _ _ _ n => n)
    (fun b o hc e => ⟨o, k b o (fun z => hc (by simp [z])) e⟩) (fun _ _ e => e) (fun _ _ _ e => e) (fun b ps e => ⟨#[], by rw [e]; simp⟩) (fun m hm => ?_) (fun b u e => ?_) I.bare
  · have e : b = it := by simpa using hb
    subst e
    exact ⟨h1, hL, h2, h3⟩
  · obtain ⟨o, es, ep, ho, r⟩ := hm
    exact ⟨o, es, ep, k _ o (Ne.symm hL) ho, r⟩
  · refine (I.hok b u e).stay (fun c v hc q => k c v ?_ q) (fun _ q => q) fun _ _ q => q
    rcases hc with z | z
    · rw [z]; exact nit b u e
    · exact nit c _ z
theorem Inv.tok (I : Inv X pins σ H s) (t : Nat) : Inv X pins σ H { s with toks := t } := I.un (h' := s.heap) (t' := t) Un.refl I.hok
theorem Inv.kept {t' : Nat} (I : Inv X pins σ H s) (k : ∀ b u, s.heap.get? b = some u → h'.get? b = some u) : Inv X pins σ H { s with heap := h', toks := t' } := I.un (Un.kept k) (I.hok.kept k)
theorem Inv.laid {a : Addr} {o : HO} {t' : Nat} (I : Inv X pins σ H s) (k : ∀ b u, s.heap.get? b = some u → h'.get? b = some u) (hp : s.heap.objs.size ≤ a) (new : ObjOk X.prog X.w (upd H a o) h' a o) :
    Inv X pins σ (upd H a o) { s with heap := h', toks := t' } := I.un (Un.laid k hp (I.hok.fresh hp)) (I.hok.laid k hp new)
theorem Inv.write {x e : Addr} {o : HO} {t' : Nat} (I : Inv X pins σ H s) (mu : Mut (H x)) (he : e = x ∨ H e = some (.own x)) (k : ∀ b u, b ≠ e → s.heap.get? b = some u → h'.get? b = some u) (heo : ∃ u, h'.get? e = some u)
    (new : ObjOk X.prog X.w (upd H x o) h' x o) : Inv X pins σ (upd H x o) { s with heap := h', toks := t' } := I.un (Un.write mu he k heo) (I.hok.write mu he k heo new)
theorem Inv.weak {σ' : List (Option V)} (I : Inv X pins σ H s) (hl : σ'.length = σ.length) (w : ∀ (i : Nat) v, σ'[i]? = some (some v) → σ[i]? = some (some v)) : Inv X pins σ' H s :=
  ⟨I.ok, I.os, I.bare, I.base, let ⟨m, hn, hl'⟩ := I.loc; ⟨m, hn, fun i x v e1 e2 e3 => hl' i x v e1 (w i v e2) e3⟩, I.cell, I.free, I.freeC, I.pin, I.hok, hl.trans I.len⟩
theorem Inv.pins_of {pins' : List (Addr × Obj)} (I : Inv X pins σ H s) (h : ∀ p ∈ pins', s.heap.get? p.1 = some p.2 ∧ H p.1 = none ∧ p.1 ≠ X.env.locals ∧ p.1 ∉ X.fs ∧ ∀ v, p.2.data ≠ .cell v) : Inv X pins' σ H s :=
  ⟨I.ok, I.os, I.bare, I.base, I.loc, I.cell, I.free, I.freeC, fun p hp => (List.mem_append.mp hp).elim (fun z => I.pin p (List.mem_append_left _ z)) (h p), I.hok, I.len⟩
theorem nodup_ix {N : List Str} (hN : N.Nodup) {i j : Nat} {x : Str} (a : N[i]? = some x) (b : N[j]? = some x) : i = j := by
  obtain ⟨h1, e1⟩ := List.getElem?_eq_some_iff.mp a
  obtain ⟨h2, e2⟩ := List.getElem?_eq_some_iff.mp b
  exact (List.getElem_inj hN).mp (e1.trans e2.symm)
theorem store_ok2 {M : Model} {A : Around} {E : Value → Shared → Prop} {i : Nat} {x : Str} {v : V} {u : Value} {Q : Unit → Shared → Prop} (I : Inv X pins σ H s) (hN : X.N.Nodup) (hi : X.N[i]? = some x) (hx : Loc X.env.scope x) (r : RelV v u)
    (h : ∀ s', Inv X pins (σ.set i (some v)) H s' → (∃ a, Heap.SameBut a s.heap s'.heap ∧ (a = X.env.locals ∨ X.env.cells.lookup x = some a)) → Q () s') (hf : X.fn x = true ∨ X.env.scope.names.lookup x = some .local := by first | exact .inl rfl | exact .inr rfl | assumption) : wpAny M A (storeName X.env x u) Q E s := by
  obtain ⟨m, hn, hl⟩ := id I.loc
  have hcls : (X.env.scope.kind == .class || (X.env.scope.kind == .module && X.env.locals != X.env.globals)) = false := by rw [I.ok.kind]; rfl
  have hiσ : i < σ.length := by rw [I.len]; exact (List.getElem?_eq_some_iff.mp hi).1
  have cne := I.cne
  have tracked : ∀ {a : Addr} {h' : Heap}, (∃ o, s.heap.get? a = some o ∧ H a = none) → Heap.SameBut a s.heap h' → HOk X.prog X.w H h' := fun {a h'} ha hs b ob e => by
    obtain ⟨_, _, hfree⟩ := ha
    refine (I.hok b ob e).stay (fun c w' hc q => (hs.2 c ?_).trans q) (fun _ q => q) fun _ _ q => q
    rintro rfl
    rcases hc with rfl | hc
    · rw [hfree] at e; cases e
    · rw [hfree] at hc; cases hc
  rcases hx with hk | hk
  · refine wpAny_storeName_local hk hn (fun h' hn' hs => ?_) hcls
    obtain ⟨oL, _, _, hoL, _⟩ := id hn
    refine h _ ⟨I.ok, I.os, I.bare, ⟨fun b o e n hb hx => ?_, fun b o e n hb hx => ?_, I.base.free, fun b o e hx => ?_, I.base.tups, I.base.frzs, I.base.tbls⟩, ⟨_, hn', fun j y v' e1 e2 e3 => ?_⟩, fun y c e => ?_, I.free, I.freeC, fun p hp => ?_, tracked ⟨oL, hoL, I.free⟩ hs, by simpa using I.len⟩ ⟨_, hs, .inl rfl⟩
    · exact (hs.2 b (Nat.ne_of_lt (Nat.lt_of_lt_of_le (Heap.lt_size e) I.ok.above))).trans (I.base.keep b o e n hb hx)
    · obtain ⟨sl, e1⟩ := I.base.slot b o e n hb hx
      exact ⟨sl, (hs.2 b (Nat.ne_of_lt (Nat.lt_of_lt_of_le (Heap.lt_size e) I.ok.above))).trans e1⟩
    · obtain ⟨o', e1⟩ := I.base.there b o e hx
      exact ⟨o', (hs.2 b (Nat.ne_of_lt (Nat.lt_of_lt_of_le (Heap.lt_size e) I.ok.above))).trans e1⟩
    · by_cases hj : j = i
      · subst hj
        rw [hi] at e1; cases e1
        rw [List.getElem?_set_self hiσ] at e2
        cases e2
        exact ⟨u, r, .inl ⟨hk, by simp⟩⟩
      · rw [List.getElem?_set_ne (Ne.symm hj)] at e2
        obtain ⟨u', r', q⟩ := hl j y v' e1 e2 e3
        refine ⟨u', r', ?_⟩
        rcases q with ⟨k, e⟩ | ⟨k, c, e, z⟩
        · refine .inl ⟨k, ?_⟩
          have : y ≠ x := fun e => hj (nodup_ix hN e1 (e ▸ hi))
          simp [this, e]
        · exact .inr ⟨k, c, e, z.sameBut hs (cne y c e)⟩
    · obtain ⟨w', z⟩ := I.cell y c e
      exact ⟨w', z.sameBut hs (cne y c e)⟩
    · obtain ⟨e, n, ne, nf, d⟩ := I.pin p hp
      exact ⟨(hs.2 p.1 ne).trans e, n, ne, nf, d⟩
  · have hfn : X.fn x = true := by
      rcases hf with z | z
      · exact z
      · rw [z] at hk; cases hk
    obtain ⟨c, hc⟩ := I.ok.has x (.inl hk)
    obtain ⟨w', z⟩ := I.cell x c hc
    refine wpAny_storeName_cell I.ok.kind hk hc z (fun h' hc' hs => ?_)
    obtain ⟨oc, hoc, hocd⟩ := id z
    refine h { s with heap := h' } ⟨I.ok, I.os, I.bare, ⟨fun b o e n hb hx => ?_, fun b o e n hb hx => ?_, I.base.free, fun b o e hx => ?_, I.base.tups, I.base.frzs, I.base.tbls⟩, ⟨m, hn.sameBut hs (Ne.symm (cne x c hc)), fun j y v' e1 e2 e3 => ?_⟩, fun y c' e => ?_, I.free, I.freeC, fun p hp => ?_, tracked ⟨oc, hoc, I.freeC x c hc⟩ hs, by simpa using I.len⟩ ⟨c, hs, .inr hc⟩
    · exact (hs.2 b (Nat.ne_of_lt (Nat.lt_of_lt_of_le (Heap.lt_size e) (I.ok.cab x c hfn hc)))).trans (I.base.keep b o e n hb hx)
    · obtain ⟨sl, e1⟩ := I.base.slot b o e n hb hx
      exact ⟨sl, (hs.2 b (Nat.ne_of_lt (Nat.lt_of_lt_of_le (Heap.lt_size e) (I.ok.cab x c hfn hc)))).trans e1⟩
    · obtain ⟨o', e1⟩ := I.base.there b o e hx
      exact ⟨o', (hs.2 b (Nat.ne_of_lt (Nat.lt_of_lt_of_le (Heap.lt_size e) (I.ok.cab x c hfn hc)))).trans e1⟩
    · by_cases hj : j = i
      · subst hj
        rw [hi] at e1; cases e1
        rw [List.getElem?_set_self hiσ] at e2
        cases e2
        exact ⟨u, r, .inr ⟨.inl hk, c, hc, hc'⟩⟩
      · rw [List.getElem?_set_ne (Ne.symm hj)] at e2
        obtain ⟨u', r', q⟩ := hl j y v' e1 e2 e3
        refine ⟨u', r', ?_⟩
        rcases q with q | ⟨k, c', e, z'⟩
        · exact .inl q
        · refine .inr ⟨k, c', e, z'.sameBut hs ?_⟩
          rintro rfl
          exact hj (nodup_ix hN e1 (I.ok.inj _ _ _ e hc ▸ hi))
    · by_cases hcc : c' = c
      · subst hcc; exact ⟨_, hc'⟩
      · obtain ⟨w2, z2⟩ := I.cell y c' e
        exact ⟨w2, z2.sameBut hs hcc⟩
    · obtain ⟨e, n, ne, nf, d⟩ := I.pin p hp
      refine ⟨(hs.2 p.1 ?_).trans e, n, ne, nf, d⟩
      intro q
      rw [q, hoc] at e
      have q' : oc = p.2 := Option.some.inj e
      exact d w' (by rw [← q']; exact hocd)
theorem store_ok {M : Model} {A : Around} {E : Value → Shared → Prop} {i : Nat} {x : Str} {v : V} {u : Value} {Q : Unit → Shared → Prop} (I : Inv X pins σ H s) (hN : X.N.Nodup) (hi : X.N[i]? = some x) (hx : Loc X.env.scope x) (r : RelV v u)
    (h : ∀ s', Inv X pins (σ.set i (some v)) H s' → Q () s') (hf : X.fn x = true ∨ X.env.scope.names.lookup x = some .local := by first | exact .inl rfl | exact .inr rfl | assumption) : wpAny M A (storeName X.env x u) Q E s :=
  store_ok2 I hN hi hx r (fun s' I' _ => h s' I') hf
theorem Inv.call' {s' : Shared} {ch : List Addr} (I : Inv X pins σ H s) (ho : s'.os = s.os) (u : Un (frs X.stack) ch H H' s.heap s'.heap) (hok : HOk X.prog X.w H' s'.heap) (hg : AllBare s'.gens)
    (hch : ∀ b ∈ ch, (b ∈ X.ex ∨ X.s₀.heap.objs.size ≤ b) ∧ b ≠ X.env.locals ∧ (∀ x c, X.env.cells.lookup x = some c → c ≠ b) ∧ ∀ p ∈ X.pn ++ pins, p.1 ≠ b) : Inv X pins σ H' s' := by
  obtain ⟨h', g', d', t', o'⟩ := s'
  have e : o' = s.os := ho
  subst e
  exact I.call (g' := g') (t' := t') (d' := d') u hok hg hch
end
abbrev XK := Value → Option Addr → Hp → Prop
abbrev St := List (Option V)
abbrev VK := V → Hp → Prop
abbrev TE := St → Hp → VK → Prop
abbrev TT := St → Hp → (Bool → Hp → Prop) → Prop
abbrev TA := St → Hp → (List V → Hp → Prop) → Prop
structure Ends where
  nx : St → Hp → Prop
  rt : VK
  bk : St → Hp → Prop := fun _ _ => False
  ct : St → Hp → Prop := fun _ _ => False
abbrev TS := Ends → St → Hp → Prop
def EP (X : Cx) (pins : List (Addr × Obj)) (σ : St) (Q : VK) (u : Value) (s' : Shared) : Prop := ∃ v H', Inv X pins σ H' s' ∧ RelV v u ∧ Q v H'
def TP (X : Cx) (pins : List (Addr × Obj)) (σ : St) (Q : Bool → Hp → Prop) (b : Bool) (s' : Shared) : Prop := ∃ H', Inv X pins σ H' s' ∧ Q b H'
def AP (X : Cx) (pins : List (Addr × Obj)) (σ : St) (Q : List V → Hp → Prop) (us : List Value) (s' : Shared) : Prop := ∃ vs H', Inv X pins σ H' s' ∧ Vals vs us ∧ Q vs H'
def SP (X : Cx) (pins : List (Addr × Obj)) (D : Ends) (f : Flow) (s' : Shared) : Prop :=
  match f with
  | .next => ∃ σ' H', Inv X pins σ' H' s' ∧ D.nx σ' H'
  | .brk => ∃ σ' H', Inv X pins σ' H' s' ∧ D.bk σ' H'
  | .cont => ∃ σ' H', Inv X pins σ' H' s' ∧ D.ct σ' H'
  | .ret u => ∃ v σ' H', Inv X pins σ' H' s' ∧ RelV v u ∧ D.rt v H'
def PE (X : Cx) (e : Expr) (t : TE) : Prop :=
  ∀ (pins : List (Addr × Obj)) (s : Shared) (σ : St) (H : Hp) (Q : VK), Inv X pins σ H s → t σ H Q → wpAny (model X.prog X.w) X.A (eval e X.env) (EP X pins σ Q) X.xe s
def PT (X : Cx) (e : Expr) (t : TT) : Prop :=
  ∀ (pins : List (Addr × Obj)) (s : Shared) (σ : St) (H : Hp) (Q : Bool → Hp → Prop), Inv X pins σ H s → t σ H Q → wpAny (model X.prog X.w) X.A (isTrue e X.env (eval e X.env)) (TP X pins σ Q) X.xe s
def PW (X : Cx) (e : Expr) (t : TT) : Prop :=
  ∀ (whole : Sem Value) (pins : List (Addr × Obj)) (s : Shared) (σ : St) (H : Hp) (Q : Bool → Hp → Prop), Inv X pins σ H s → t σ H Q → wpAny (model X.prog X.w) X.A (isTrue e X.env whole) (TP X pins σ Q) X.xe s
theorem PW.pt {X : Cx} {e : Expr} {t : TT} (h : PW X e t) : PT X e t := h _
def PA (X : Cx) (es : List Expr) (t : TA) : Prop :=
  ∀ (pos : Pos) (pins : List (Addr × Obj)) (s : Shared) (σ : St) (H : Hp) (Q : List V → Hp → Prop), Inv X pins σ H s → t σ H Q → wpAny (model X.prog X.w) X.A (spliced (backTo pos (starEach es X.env))) (AP X pins σ Q) X.xe s
def PS (X : Cx) (st : Stmt) (t : TS) : Prop :=
  ∀ (pins : List (Addr × Obj)) (s : Shared) (σ : St) (H : Hp) (D : Ends), Inv X pins σ H s → t D σ H → wpAny (model X.prog X.w) X.A (exec st X.env) (SP X pins D) X.xe s
def PSs (X : Cx) (st : List Stmt) (t : TS) : Prop :=
  ∀ (pins : List (Addr × Obj)) (s : Shared) (σ : St) (H : Hp) (D : Ends), Inv X pins σ H s → t D σ H → wpAny (model X.prog X.w) X.A (execs st X.env) (SP X pins D) X.xe s
theorem thn {α : Type} {t : Sem α} {Q Q' : α → Shared → Prop} {M : Model} {A : Around} {E : Value → Shared → Prop} {s : Shared} (h : wpAny M A t Q E s) (hQ : ∀ a s, Q a s → Q' a s) : wpAny M A t Q' E s := wpAny_mono h hQ fun _ _ x => x
end L2
namespace L2
open PySem PySem.Spec PyProof.Rows
section
variable {X : Cx}
def tVar (i : Nat) : TE := fun σ H Q => ∃ v, σ[i]? = some (some v) ∧ Q v H
def tC (v : V) : TE := fun _ H Q => Q v H
theorem pe_var {i : Nat} {x : Str} {pos : Pos} (hN : X.N[i]? = some x) (hv : Vis X.env.scope x) (hd : (x == ("__debug__" : Str)) = false := by decide) (hcd : (x == ("__classdict__" : Str)) = false := by decide) : PE X (.Name x pos) (tVar i) := by
  intro pins s σ H Q I h
  obtain ⟨v, e, h⟩ := h
  obtain ⟨m, hn, hl⟩ := I.loc
  obtain ⟨u, r, l⟩ := hl i x v hN e hv
  have fin : EP X pins σ Q u s := ⟨v, H, I, r, h⟩
  rcases l with ⟨hk, hm⟩ | ⟨hk, c, hc, hcell⟩
  · exact wpAny_Name (wpAny_loadName_local I.ok.kind hk hn hm fin) hd
  · rcases hk with hk | hk
    · exact wpAny_Name (wpAny_loadName_cell I.ok.kind hk hc hcell fin) hd
    · exact wpAny_Name (wpAny_loadName_free I.ok.kind hk hc hcell fin hcd) hd
theorem pe_int {i j pos} : PE X (.Constant (.int i) j pos) (tC (.int i)) := fun _ _ _ H _ I h => wpAny_Constant_int ⟨.int i, H, I.tok _, ⟨_, rfl⟩, h⟩
theorem pe_bl {b j pos} : PE X (.Constant (.bool b) j pos) (tC (.bl b)) := fun _ _ _ H _ I h => Constant_bool ⟨.bl b, H, I, rfl, h⟩
theorem pe_non {j pos} : PE X (.Constant .none j pos) (tC .non) := fun _ _ _ H _ I h => Constant_none ⟨.non, H, I, rfl, h⟩
theorem pe_str {x j pos} : PE X (.Constant (.str x) j pos) (tC (.str x)) := fun _ _ _ H _ I h => Calls.Constant_str ⟨.str x, H, I.tok _, ⟨_, rfl⟩, h⟩
def Gl (X : Cx) (x : Str) : Prop := X.env.kindOf x = some .globalImplicit
theorem ld_glob {E : Value → Shared → Prop} {pins : List (Addr × Obj)} {s : Shared} {σ : St} {H : Hp} {x : Str} {u : Value} {pos : Pos} {Q : Value → Shared → Prop} (I : Inv X pins σ H s) (hg : Gl X x) (hm : X.mg x = some u) (h : Q u s)
    (hd : (x == ("__debug__" : Str)) = false := by decide) : wpAny (model X.prog X.w) X.A (eval (.Name x pos) X.env) Q E s :=
  Calls.Name_function_global I.ok.kind hg (Calls.loadGlobal_global (by rw [I.ok.glob]; exact I.mod.glob.keeps I.bk) hm h) hd
theorem ld_blt {E : Value → Shared → Prop} {pins : List (Addr × Obj)} {s : Shared} {σ : St} {H : Hp} {x : Str} {u : Value} {pos : Pos} {Q : Value → Shared → Prop} (I : Inv X pins σ H s) (hg : Gl X x) (hm : X.mg x = none) (hv : bootBuiltins x = some u) (h : Q u s)
    (hn : x ≠ "__name__" := by decide) (hd : (x == ("__debug__" : Str)) = false := by decide) : wpAny (model X.prog X.w) X.A (eval (.Name x pos) X.env) Q E s := by
  obtain ⟨mb, h1, h2⟩ := I.mod.blt
  exact Calls.Name_function_global I.ok.kind hg (Calls.loadGlobal_builtin (by rw [I.ok.glob]; exact I.mod.glob.keeps I.bk) hm (by rw [I.ok.blt]; exact h1.keeps I.bk) ((h2 x hn).trans hv) h) hd
theorem pe_glob {x : Str} {v : V} {u : Value} {pos : Pos} (hg : Gl X x) (hm : X.mg x = some u) (r : RelV v u) (hd : (x == ("__debug__" : Str)) = false := by decide) : PE X (.Name x pos) (tC v) :=
  fun _ _ _ H _ I h => ld_glob I hg hm ⟨v, H, I, r, h⟩ hd
variable {a b : Expr} {ta tb : TE} {pos : Pos}
def PC (X : Cx) (op : CmpOp) (a b : Expr) (t : TE) : Prop :=
  ∀ (pins : List (Addr × Obj)) (s : Shared) (σ : St) (H : Hp) (Q : VK), Inv X pins σ H s → t σ H Q →
    wpAny (model X.prog X.w) X.A (eval a X.env) (fun v s₁ => wpAny (model X.prog X.w) X.A (eval b X.env) (fun u s₂ => wpAny (model X.prog X.w) X.A (compareOp op v u) (EP X pins σ Q) X.xe s₂) X.xe s₁) X.xe s
theorem nobehind (b : Expr) {op : CmpOp} (h : op ≠ .In) (h2 : op ≠ .NotIn) : behindInMarks op b = false := by
  have e1 : (op == CmpOp.In) = false := by cases op <;> first | rfl | exact absurd rfl h
  have e2 : (op == CmpOp.NotIn) = false := by cases op <;> first | rfl | exact absurd rfl h2
  cases b <;> simp [behindInMarks, e1, e2]
def tIsN (ta : TE) : TE := fun σ H Q => ta σ H fun x H1 => Q (.bl (decide (x = .non))) H1
def tNotN (ta : TE) : TE := fun σ H Q => ta σ H fun x H1 => Q (.bl (!decide (x = .non))) H1
theorem RelV.none_iff {x : V} {v : Value} (r : RelV x v) : (v == Value.none) = decide (x = .non) := by
  cases x with
  | non => cases r; rfl
  | bl _ => cases r; rfl
  | int _ => obtain ⟨t, rfl⟩ := r; rfl
  | str _ => obtain ⟨t, rfl⟩ := r; rfl
  | byt _ => obtain ⟨t, rfl⟩ := r; rfl
  | flt _ => obtain ⟨t, rfl⟩ := r; rfl
  | ref _ => cases r; rfl
  | ty _ => cases r; rfl
theorem pc_isN {j pos'} (ha : PE X a ta) : PC X .Is a (.Constant .none j pos') (tIsN ta) := by
  intro pins s σ H Q I h
  refine thn (ha pins s σ H _ I h) fun v s1 ⟨x, H1, I1, r1, q1⟩ => ?_
  exact Constant_none (is_none_gen ⟨.bl _, H1, I1, by rw [r1.none_iff]; rfl, q1⟩)
theorem pc_notN {j pos'} (ha : PE X a ta) : PC X .IsNot a (.Constant .none j pos') (tNotN ta) := by
  intro pins s σ H Q I h
  refine thn (ha pins s σ H _ I h) fun v s1 ⟨x, H1, I1, r1, q1⟩ => ?_
  exact Constant_none (isnot_none_gen ⟨.bl _, H1, I1, by rw [r1.none_iff]; rfl, q1⟩)
def tB (t : TE) : TT := fun σ H Q => t σ H fun x H1 => ∃ c, x = .bl c ∧ Q c H1
theorem pt_cmp {op : CmpOp} {t : TE} (h : PC X op a b t) (h1 : behindInMarks op b = false := by first | exact nobehind _ (by decide) (by decide) | rfl) : PT X (.Compare a [op] [b] pos) (tB t) := by
  intro pins s σ H Q I hw
  refine wpAny_isTrue_Compare1 (thn (h pins s σ H _ I hw) fun v s1 h1 => thn h1 fun u s2 h2 => thn h2 fun c s3 ⟨x, H1, I1, r1, q1⟩ => ?_) h1
  obtain ⟨d, rfl, q⟩ := q1
  cases r1
  exact wpAny_truthy_bool ⟨H1, I1, q⟩
theorem pt_val {e : Expr} {t : TE} (h : PE X e t) (he : ∀ whole, isTrue e X.env whole = (do let v ← whole; standAt e.pos; holding [v] (truthy v)) := by intro _; rfl) : PT X e (tB t) := by
  intro pins s σ H Q I hw
  refine isTrue_plain (thn (h pins s σ H _ I hw) fun v s1 ⟨x, H1, I1, r1, q1⟩ => ?_) (he _)
  obtain ⟨d, rfl, q⟩ := q1
  cases r1
  exact wpAny_truthy_bool ⟨H1, I1, q⟩
variable {tA tB' : TT} {rest : List Expr}
def tAnd (t u : TT) : TT := fun σ H Q => t σ H fun c H1 => if c = true then u σ H1 Q else Q false H1
def tOr (t u : TT) : TT := fun σ H Q => t σ H fun c H1 => if c = true then Q true H1 else u σ H1 Q
def tNot (t : TT) : TT := fun σ H Q => t σ H fun c H1 => Q (!c) H1
theorem pw_and1 (ha : PT X a tA) : PW X (.BoolOp .And [a] pos) tA := by
  intro wh pins s σ H Q I h
  refine isTrue_and (thn (ha pins s σ H Q I h) fun c s1 e => ?_)
  cases c with
  | true => exact isTrue_and_nil e
  | false => exact e
theorem pw_or1 (ha : PT X a tA) : PW X (.BoolOp .Or [a] pos) tA := by
  intro wh pins s σ H Q I h
  refine isTrue_or (thn (ha pins s σ H Q I h) fun c s1 e => ?_)
  cases c with
  | false => exact isTrue_or_nil e
  | true => exact e
theorem pw_and (ha : PT X a tA) (hb : PW X (.BoolOp .And (b :: rest) pos) tB') : PW X (.BoolOp .And (a :: b :: rest) pos) (tAnd tA tB') := by
  intro wh pins s σ H Q I h
  refine isTrue_and (thn (ha pins s σ H _ I h) fun c s1 ⟨H1, I1, q1⟩ => ?_)
  cases c with
  | true => exact hb wh pins s1 σ H1 Q I1 q1
  | false => exact ⟨H1, I1, q1⟩
theorem pw_or (ha : PT X a tA) (hb : PW X (.BoolOp .Or (b :: rest) pos) tB') : PW X (.BoolOp .Or (a :: b :: rest) pos) (tOr tA tB') := by
  intro wh pins s σ H Q I h
  refine isTrue_or (thn (ha pins s σ H _ I h) fun c s1 ⟨H1, I1, q1⟩ => ?_)
  cases c with
  | true => exact ⟨H1, I1, q1⟩
  | false => exact hb wh pins s1 σ H1 Q I1 q1
theorem pt_not (ha : PT X a tA) : PT X (.UnaryOp .Not a pos) (tNot tA) := by
  intro pins s σ H Q I h
  exact isTrue_not (ha pins s σ H (fun c H1 => Q (!c) H1) I h)
def tAndV (ta tb : TE) : TE := fun σ H Q => ta σ H fun x H1 => ∃ c, x = .bl c ∧ if c = true then tb σ H1 Q else Q (.bl false) H1
def tOrV (ta tb : TE) : TE := fun σ H Q => ta σ H fun x H1 => ∃ c, x = .bl c ∧ if c = true then Q (.bl true) H1 else tb σ H1 Q
def tNotV (ta : TE) : TE := fun σ H Q => ta σ H fun x H1 => ∃ c, x = .bl c ∧ Q (.bl (!c)) H1
def tIf (t : TT) (ta tb : TE) : TE := fun σ H Q => t σ H fun c H1 => if c = true then ta σ H1 Q else tb σ H1 Q
theorem pe_ifExp {c : Expr} (hc : PT X c tA) (ha : PE X a ta) (hb : PE X b tb) : PE X (.IfExp c a b pos) (tIf tA ta tb) := by
  intro pins s σ H Q I h
  refine wpAny_IfExp (thn (hc pins s σ H _ I h) fun d s1 ⟨H1, I1, q1⟩ => ?_)
  cases d with
  | true => exact ha pins s1 σ H1 Q I1 q1
  | false => exact hb pins s1 σ H1 Q I1 q1
end
end L2
namespace L2
open PySem PySem.Spec PyProof.Rows
def SqL (K : PySem.W.Frag) (H : Hp) (a : Addr) (xs : List V) : Prop :=
  Rd H a (.lst xs) ∨
    ∃ (o : Obj) (its : Array Value) (n : Nat), K.lookup a = some o ∧ o.cls = .type "list" ∧ o.dict = none ∧ o.data = .seq its n ∧ its.size ≤ sizeLine ∧ Vals xs its.toList
def SqT (K : PySem.W.Frag) (H : Hp) (a : Addr) (xs : List V) : Prop :=
  Rd H a (.tup xs) ∨
    ∃ (o : Obj) (its : Array Value) (n : Nat), K.lookup a = some o ∧ o.cls = .type "tuple" ∧ o.data = .seq its n ∧ its.size ≤ sizeLine ∧ Vals xs its.toList
def absV : Value → Option V
  | .none => some .non
  | .bool b => some (.bl b)
  | .int i _ => some (.int i)
  | .str x _ => some (.str x)
  | .bytes b _ => some (.byt b)
  | .float b _ => some (.flt b)
  | .ref a => some (.ref a)
  | .type n => some (.ty n)
  | _ => none
theorem RelV.abs {x : V} {u : Value} (r : RelV x u) : absV u = some x := by
  cases x with
  | non => cases r; rfl
  | bl _ => cases r; rfl
  | int _ => obtain ⟨t, rfl⟩ := r; rfl
  | str _ => obtain ⟨t, rfl⟩ := r; rfl
  | byt _ => obtain ⟨t, rfl⟩ := r; rfl
  | flt _ => obtain ⟨t, rfl⟩ := r; rfl
  | ref _ => cases r; rfl
  | ty _ => cases r; rfl
theorem RelV.inj {x y : V} {u : Value} (r : RelV x u) (q : RelV y u) : x = y := Option.some.inj (r.abs.symm.trans q.abs)
theorem Vals.inj : ∀ {xs ys : List V} {us : List Value}, Vals xs us → Vals ys us → xs = ys
  | _, _, _, .nil, .nil => rfl
  | _, _, _, .cons r t, .cons r' t' => by rw [r.inj r', Vals.inj t t']
section
variable {X : Cx} {pins : List (Addr × Obj)} {σ : St} {H : Hp} {s : Shared} {a : Addr} {xs ys : List V}
theorem SqL.of {K : PySem.W.Frag} (h : H a = some (.lst xs)) : SqL K H a xs := .inl (.inl h)
theorem SqT.of {K : PySem.W.Frag} (h : H a = some (.tup xs)) : SqT K H a xs := .inl (.inl h)
theorem Inv.list (I : Inv X pins σ H s) (h : SqL X.K H a xs) : ∃ its : List Value, Vals xs its ∧ PlainL s.heap a its.toArray ∧ xs.length ≤ sizeLine := by
  rcases h with h | ⟨o, its, n, hk, hc, hd, hs, hz, r⟩
  · obtain ⟨z, its, n, r, e⟩ := h.ok I.hok
    exact ⟨its, r, ⟨_, n, e, rfl, rfl, rfl⟩, z⟩
  · refine ⟨its.toList, r, ⟨o, n, I.kIn a o hk, hc, hd, by simpa using hs⟩, ?_⟩
    have e := r.length
    simp only [Array.length_toList] at e
    omega
theorem Inv.tuple (I : Inv X pins σ H s) (h : SqT X.K H a xs) : ∃ its : List Value, Vals xs its ∧ IsTup s.heap a its.toArray ∧ xs.length ≤ sizeLine := by
  rcases h with h | ⟨o, its, n, hk, hc, hs, hz, r⟩
  · obtain ⟨z, its, r, p⟩ := h.ok I.hok
    exact ⟨its, r, p, z⟩
  · refine ⟨its.toList, r, ⟨o, I.kIn a o hk, hc, n, by simpa using hs⟩, ?_⟩
    have e := r.length
    simp only [Array.length_toList] at e
    omega
theorem Inv.list_inj (I : Inv X pins σ H s) (h : SqL X.K H a xs) (h' : SqL X.K H a ys) : xs = ys := by
  obtain ⟨its, r, ⟨o, n, e, _, _, d⟩, _⟩ := I.list h
  obtain ⟨its', r', ⟨o', n', e', _, _, d'⟩, _⟩ := I.list h'
  rw [e] at e'; cases e'
  rw [d] at d'
  injection d' with d1 _
  have : its = its' := by simpa using congrArg Array.toList d1
  subst this
  exact r.inj r'
end
abbrev Cx.wish (X : Cx) (E : Value → Shared → Prop) : Cx := { X with xe := E }
abbrev Cx.nox (X : Cx) : Cx := X.wish fun _ _ => False
theorem Cx.Ok.wish {X : Cx} (ok : X.Ok) (E : Value → Shared → Prop) : (X.wish E).Ok :=
  ⟨ok.mod, ok.kind, ok.glob, ok.blt, ok.above, ok.inj, ok.has, ok.cab, ok.hd, ok.frames, ok.stk, ok.exf, ok.bs, ok.bsz, ok.noex, ok.exfs, ok.funs, ok.frf⟩
theorem Cx.Ok.unwish {X : Cx} {E : Value → Shared → Prop} (ok : (X.wish E).Ok) : X.Ok :=
  ⟨ok.mod, ok.kind, ok.glob, ok.blt, ok.above, ok.inj, ok.has, ok.cab, ok.hd, ok.frames, ok.stk, ok.exf, ok.bs, ok.bsz, ok.noex, ok.exfs, ok.funs, ok.frf⟩
section
variable {X : Cx} {pins : List (Addr × Obj)} {σ : St} {H : Hp} {s : Shared} {E : Value → Shared → Prop}
theorem Inv.wish (I : Inv X pins σ H s) (E : Value → Shared → Prop) : Inv (X.wish E) pins σ H s := ⟨I.ok.wish E, I.os, I.bare, I.base, I.loc, I.cell, I.free, I.freeC, I.pin, I.hok, I.len⟩
theorem Inv.unwish (I : Inv (X.wish E) pins σ H s) : Inv X pins σ H s := ⟨I.ok.unwish, I.os, I.bare, I.base, I.loc, I.cell, I.free, I.freeC, I.pin, I.hok, I.len⟩
theorem SP.unwish {D : Ends} {f : Flow} {s' : Shared} (h : SP (X.wish E) pins D f s') : SP X pins D f s' := by
  cases f with
  | next => obtain ⟨σ', H', I, q⟩ := h; exact ⟨σ', H', I.unwish, q⟩
  | brk => obtain ⟨σ', H', I, q⟩ := h; exact ⟨σ', H', I.unwish, q⟩
  | cont => obtain ⟨σ', H', I, q⟩ := h; exact ⟨σ', H', I.unwish, q⟩
  | ret u => obtain ⟨v, σ', H', I, r, q⟩ := h; exact ⟨v, σ', H', I.unwish, r, q⟩
theorem PE.nox {e : Expr} {t : TE} (h : PE X.nox e t) : PE X e t := fun pins s σ H Q I hw =>
  wpAny_mono (h pins s σ H Q (I.wish _) hw) (fun _ _ ⟨v, H', I', r, q⟩ => ⟨v, H', I'.unwish, r, q⟩) fun _ _ z => False.elim z
theorem PT.nox {e : Expr} {t : TT} (h : PT X.nox e t) : PT X e t := fun pins s σ H Q I hw =>
  wpAny_mono (h pins s σ H Q (I.wish _) hw) (fun _ _ ⟨H', I', q⟩ => ⟨H', I'.unwish, q⟩) fun _ _ z => False.elim z
theorem PSs.nox {st : List Stmt} {t : TS} (h : PSs X.nox st t) : PSs X st t := fun pins s σ H D I hw =>
  wpAny_mono (h pins s σ H D (I.wish _) hw) (fun _ _ q => q.unwish) fun _ _ z => False.elim z
end
section
variable {X : Cx} {st : Stmt} {rest : List Stmt} {t u : TS} {e : Expr} {te : TE} {pos : Pos}
def tNext : TS := fun D σ H => D.nx σ H
def tSeq (t u : TS) : TS := fun D σ H => t { D with nx := u D } σ H
theorem pss_nil : PSs X [] tNext := fun _ _ σ H _ I h => wpAny_execs_nil ⟨σ, H, I, h⟩
theorem pss_cons (h1 : PS X st t) (h2 : PSs X rest u) : PSs X (st :: rest) (tSeq t u) := by
  intro pins s σ H D I h
  refine wpAny_execs_cons (thn (h1 pins s σ H { D with nx := u D } I h) fun f s1 q => ?_)
  cases f with
  | next =>
    obtain ⟨σ', H', I', q⟩ := q
    exact h2 pins s1 σ' H' D I' q
  | ret v => exact q
  | brk => exact q
  | cont => exact q
theorem pss_one (h1 : PS X st t) : PSs X [st] t := by
  intro pins s σ H D I h
  refine wpAny_execs_cons (thn (h1 pins s σ H D I h) fun f s1 q => ?_)
  cases f with
  | next => exact wpAny_execs_nil q
  | ret v => exact q
  | brk => exact q
  | cont => exact q
def tBreak : TS := fun D σ H => D.bk σ H
def tCont : TS := fun D σ H => D.ct σ H
theorem Inv.quiet {pins : List (Addr × Obj)} {σ : St} {H : Hp} {s : Shared} (I : Inv X pins σ H s) : interactive X.env = false := by simp [interactive, I.ok.kind]
def tDrop (te : TE) : TS := fun D σ H => te σ H fun _ H1 => D.nx σ H1
theorem ps_expr (he : PE X e te) (hs : swapsWith e none pos.line X.env = pure false := by rfl) : PS X (.Expr e pos) (tDrop te) := by
  intro pins s σ H D I h
  exact wpAny_Expr_any (thn (he pins s σ H _ I h) fun v s1 ⟨x, H1, I1, r1, q1⟩ => ⟨σ, H1, I1, q1⟩) I.quiet hs
def tRet (te : TE) : TS := fun D σ H => te σ H D.rt
theorem ps_ret (he : PE X e te) : PS X (.Return (some e) pos) (tRet te) := by
  intro pins s σ H D I h
  exact wpAny_Return_some (thn (he pins s σ H _ I h) fun v s1 ⟨x, H1, I1, r1, q1⟩ => ⟨x, σ, H1, I1, r1, q1⟩)
def tRetN : TS := fun D _ H => D.rt .non H
def tIfS (c : TT) (t u : TS) : TS := fun D σ H => c σ H fun b H1 => if b = true then t D σ H1 else u D σ H1
theorem ps_if {c : Expr} {a b : List Stmt} {tc : TT} (hc : PT X c tc) (ha : PSs X a t) (hb : PSs X b u) : PS X (.If c a b pos) (tIfS tc t u) := by
  intro pins s σ H D I h
  refine wpAny_If (thn (hc pins s σ H _ I h) fun d s1 ⟨H1, I1, q1⟩ => ?_)
  cases d with
  | true => exact ha pins s1 σ H1 D I1 q1
  | false => exact hb pins s1 σ H1 D I1 q1
end
abbrev TG := V → St → Hp → (St → Hp → Prop) → Prop
abbrev TGs := List V → St → Hp → (St → Hp → Prop) → Prop
def PG (X : Cx) (target : Expr) (t : TG) : Prop :=
  ∀ (pins : List (Addr × Obj)) (s : Shared) (σ : St) (H : Hp) (v : V) (u : Value) (Q : St → Hp → Prop), Inv X pins σ H s → RelV v u → t v σ H Q →
    wpAny (model X.prog X.w) X.A (assign target X.env u) (fun _ s' => ∃ σ' H', Inv X pins σ' H' s' ∧ Q σ' H') X.xe s
def PGs (X : Cx) (ts : List Expr) (t : TGs) : Prop :=
  ∀ (pins : List (Addr × Obj)) (s : Shared) (σ : St) (H : Hp) (vs : List V) (us : List Value) (Q : St → Hp → Prop), Inv X pins σ H s → Vals vs us → t vs σ H Q →
    wpAny (model X.prog X.w) X.A (assignInOrder ((assignEach ts X.env).map (·.2)) us) (fun _ s' => ∃ σ' H', Inv X pins σ' H' s' ∧ Q σ' H') X.xe s
section
variable {X : Cx} {pos : Pos}
def gName (i : Nat) : TG := fun v σ H Q => Q (σ.set i (some v)) H
theorem pg_name {i : Nat} {x : Str} (hN : X.N.Nodup) (hi : X.N[i]? = some x) (hx : Loc X.env.scope x) (hf : X.fn x = true ∨ X.env.scope.names.lookup x = some .local := by first | exact .inl rfl | exact .inr rfl | assumption) : PG X (.Name x pos) (gName i) := by
  intro pins s σ H v u Q I r h
  exact wpAny_assign_Name (store_ok I hN hi hx r (fun s' I' => ⟨_, H, I', h⟩) hf)
def gNil : TGs := fun vs σ H Q => vs = [] ∧ Q σ H
def gCons (t : TG) (u : TGs) : TGs := fun vs σ H Q => ∃ v r, vs = v :: r ∧ t v σ H fun σ' H' => u r σ' H' Q
theorem pgs_nil : PGs X [] gNil := by
  intro pins s σ H vs us Q I r h
  obtain ⟨e, h⟩ := h
  subst e
  cases r
  exact assignInOrder_nil ⟨σ, H, I, h⟩
theorem pgs_cons {e : Expr} {es : List Expr} {t : TG} {u : TGs} (h1 : PG X e t) (h2 : PGs X es u)
    (hs : (assignEach (e :: es) X.env).map (·.2) = assign e X.env :: (assignEach es X.env).map (·.2) := by rfl) : PGs X (e :: es) (gCons t u) := by
  intro pins s σ H vs us Q I r h
  obtain ⟨v, vr, e1, h⟩ := h
  subst e1
  cases r with
  | cons r rr =>
    rw [hs]
    refine assignInOrder_cons (thn (h1 pins s σ H _ _ _ I r h) fun _ s1 ⟨σ1, H1, I1, q1⟩ => ?_)
    exact h2 pins s1 σ1 H1 _ _ Q I1 rr q1
def gTup (K : PySem.W.Frag) (n : Nat) (t : TGs) : TG := fun v σ H Q => ∃ a xs, v = .ref a ∧ SqT K H a xs ∧ xs.length = n ∧ t xs σ H Q
theorem pg_tup {es : List Expr} {k : Nat} {t : TGs} {n : Nat} (hc : X.calm = true) (h : PGs X es t)
    (hn : (assignEach es X.env).length = n := by rfl) (hst : (assignEach es X.env).findIdx? (·.1) = none := by rfl) : PG X (.Tuple es k pos) (gTup X.K n t) := by
  intro pins s σ H v u Q I r hw
  obtain ⟨a, xs, e1, hq, hl, hw⟩ := hw
  subst e1
  cases r
  obtain ⟨its, rv, ht, hz⟩ := I.tuple hq
  refine assign_Tuple_tuple (I.ok.hd hc) ht (by simp [hn, ← hl, rv.length]) hst fun h' hx => ?_
  have I1 : Inv X pins σ H { s with heap := h' } := I.kept (t' := s.toks) fun b o e => hx b o (Nat.ne_of_lt (Heap.lt_size e)) e
  exact h pins _ σ H xs _ Q I1 (by simpa using rv) hw
def tAsg (te : TE) (g : TG) : TS := fun D σ H => te σ H fun x H1 => g x σ H1 D.nx
theorem ps_set {i : Nat} {x : Str} {e : Expr} {te : TE} {pos' : Pos} (hN : X.N.Nodup) (hi : X.N[i]? = some x) (hx : Loc X.env.scope x) (he : PE X e te) (hs : swapsWith e (some (.Name x pos')) pos.line X.env = pure false := by rfl) (hf : X.fn x = true ∨ X.env.scope.names.lookup x = some .local := by first | exact .inl rfl | exact .inr rfl | assumption) :
    PS X (.Assign [.Name x pos'] e pos) (tAsg te (gName i)) := by
  intro pins s σ H D I h
  refine wpAny_Assign_Name (thn (he pins s σ H _ I h) fun v s1 ⟨y, H1, I1, r1, q1⟩ => ?_) hs
  exact store_ok I1 hN hi hx r1 (fun s2 I2 => ⟨_, H1, I2, q1⟩) hf
end
section
variable {X : Cx} {pos : Pos}
def tWhile (c : TT) (tb : TS) : TS := fun D σ H => ∃ W : Nat → St → Hp → Prop, (∃ m, W m σ H) ∧ ∀ m σ H, W m σ H →
  c σ H fun b H1 => if b = true then ∃ N : St → Hp → Prop, (∀ σ' H', N σ' H' → ∃ m', m' < m ∧ W m' σ' H') ∧ tb { D with nx := N, ct := N, bk := D.nx } σ H1 else D.nx σ H1
theorem ps_while {c : Expr} {body : List Stmt} {tc : TT} {tb : TS} (hp : PassesOwn (model X.prog X.w) X.A X.env X.xe) (hc : PT X c tc) (hb : PSs X body tb) : PS X (.While c body [] pos) (tWhile tc tb) := by
  intro pins s σ H D I h
  obtain ⟨W, ⟨m0, w0⟩, turn⟩ := h
  refine wpAny_While (codeAny_whileLoop (fun n s' => ∃ σ' H', Inv X pins σ' H' s' ∧ W n σ' H') ?_ m0 ⟨σ, H, I, w0⟩)
  rintro n s1 ⟨σ1, H1, I1, w1⟩
  refine wpAny_passesOwn hp (thn (hc pins s1 σ1 H1 _ I1 (turn n σ1 H1 w1)) fun b s2 ⟨H2, I2, q2⟩ => ?_)
  cases b with
  | true =>
    obtain ⟨N, hN, q2⟩ := q2
    rw [if_pos rfl]
    refine wpAny_passesOwn hp (thn (hb pins s2 σ1 H2 _ I2 q2) fun f s3 q3 => ?_)
    cases f with
    | next =>
      obtain ⟨σ3, H3, I3, n3⟩ := q3
      obtain ⟨m', hm, w3⟩ := hN σ3 H3 n3
      exact ⟨m', hm, σ3, H3, I3, w3⟩
    | cont =>
      obtain ⟨σ3, H3, I3, n3⟩ := q3
      obtain ⟨m', hm, w3⟩ := hN σ3 H3 n3
      exact ⟨m', hm, σ3, H3, I3, w3⟩
    | brk => exact q3
    | ret v => exact q3
  | false =>
    rw [if_neg Bool.false_ne_true]
    exact wpAny_execs_nil ⟨σ1, H2, I2, q2⟩
end
structure It where
  go : Nat → Hp → Prop
  yld : Nat → Hp → V → Hp → Prop
  stop : Nat → Hp → Prop
def FpOk (X : Cx) (pins : List (Addr × Obj)) (H : Hp) (b : Addr) : Prop :=
  H b = none ∧ b ≠ X.env.locals ∧ b ∉ X.fs ∧ (b ∈ X.ex ∨ X.s₀.heap.objs.size ≤ b) ∧ (∀ x c, X.env.cells.lookup x = some c → c ≠ b) ∧ ∀ p ∈ X.pn ++ pins, p.1 ≠ b
theorem Inv.fpOk {X : Cx} {pins : List (Addr × Obj)} {σ : St} {H H' : Hp} {s : Shared} {b : Addr} (I : Inv X pins σ H s) (hb : s.heap.objs.size ≤ b) (hn : H' b = none) : FpOk X pins H' b := by
  refine ⟨hn, Nat.ne_of_gt (Nat.lt_of_lt_of_le I.lt hb), I.nofs hb, .inr (Nat.le_trans I.sz hb), fun x c e z => ?_, fun p hp z => ?_⟩
  · obtain ⟨v, q⟩ := I.cell x c e
    exact absurd (Nat.lt_of_lt_of_le q.lt (by rw [z]; exact hb)) (Nat.lt_irrefl _)
  · exact absurd (Nat.lt_of_lt_of_le (Heap.lt_size (I.pin p hp).1) (by rw [z]; exact hb)) (Nat.lt_irrefl _)
structure Turn (P : Program) (w : World) (K : PySem.W.Frag) (tg : Expr) (J : It) (fp : List Addr) (it : Addr) (tn : Nat → Heap → Prop) : Prop where
  mem : it ∈ fp
  obj : ∀ i h, tn i h → ∀ b ∈ fp, ∃ o, h.get? b = some o ∧ ∀ v, o.data ≠ .cell v
  keep : ∀ i h h', tn i h → (∀ b ∈ fp, ∀ o, h.get? b = some o → h'.get? b = some o) → tn i h'
  item : ∀ (X : Cx), X.prog = P → X.w = w → X.K = K → X.calm = true → ∀ (i : Nat) (pins : List (Addr × Obj)) (s : Shared) (σ : St) (H : Hp) (E : Value → Shared → Prop), Inv X pins σ H s → (∀ b ∈ fp, FpOk X pins H b) → tn i s.heap → J.go i H →
    wpAny (model P w) X.A (pyNext (.ref it)) (fun r s1 => ∃ u, r = some u ∧
      wpAny (model P w) X.A (letOwnedTupleGo tg (.ref it) u) (fun _ s2 => ∃ x H', Inv X pins σ H' s2 ∧ RelV x u ∧ J.yld i H x H' ∧ tn (i + 1) s2.heap ∧ ∀ b ∈ fp, H' b = none) E s1) E s
  done : ∀ (X : Cx), X.prog = P → X.w = w → X.K = K → X.calm = true → ∀ (i : Nat) (pins : List (Addr × Obj)) (s : Shared) (σ : St) (H : Hp) (E : Value → Shared → Prop), Inv X pins σ H s → (∀ b ∈ fp, FpOk X pins H b) → tn i s.heap → J.stop i H →
    wpAny (model P w) X.A (pyNext (.ref it)) (fun r s1 => r = none ∧ Inv X pins σ H s1) E s
  self : ∀ (A : Around) (i : Nat) (s : Shared) (Q : Value → Shared → Prop) (E : Value → Shared → Prop), tn i s.heap → Q (.ref it) s → wpAny (model P w) A (pyIter (.ref it)) Q E s
abbrev TI := St → Hp → (It → Hp → Prop) → Prop
def PIE (X : Cx) (pins : List (Addr × Obj)) (σ : St) (tg : Expr) (R : It → Hp → Prop) (itv : Value) (s2 : Shared) : Prop :=
  ∃ (it : Addr) (fp : List Addr) (tn : Nat → Heap → Prop) (J : It) (H' : Hp), itv = .ref it ∧ Inv X pins σ H' s2 ∧ Turn X.prog X.w X.K tg J fp it tn ∧ tn 0 s2.heap ∧ (∀ b ∈ fp, FpOk X pins H' b) ∧ R J H'
def PI (X : Cx) (tg iter : Expr) (wi : TI) : Prop :=
  ∀ (pins : List (Addr × Obj)) (s : Shared) (σ : St) (H : Hp) (R : It → Hp → Prop), Inv X pins σ H s → wi σ H R →
    wpAny (model X.prog X.w) X.A (eval iter X.env) (fun v s1 => wpAny (model X.prog X.w) X.A (pyIter v) (PIE X pins σ tg R) X.xe s1) X.xe s
theorem go_of {M : Model} {A : Around} {E : Value → Shared → Prop} {s : Shared} {tg : Expr} {it : Addr} {u : Value} {o : Obj} {n : String} {vs : Array Value} {Q : Unit → Shared → Prop} (ho : s.heap.get? it = some o) (hc : o.cls = .type n) (hd : o.data = .fields vs)
    (hn : ["enumerate", "zip", "dict_itemiterator", "dict_reverseitemiterator", "odict_iterator", "itertools.zip_longest", "itertools.pairwise"].contains n = false) (hQ : Q () s) : wpAny M A (letOwnedTupleGo tg (.ref it) u) Q E s := by
  unfold letOwnedTupleGo
  cases tg <;> first
    | exact wpAny_pure hQ
    | (cases u <;> first
        | exact wpAny_pure hQ
        | (refine wpAny_bind (wpAny_load ho ?_)
           rw [hc, hd]
           show wpAny M A (if (["enumerate", "zip", "dict_itemiterator", "dict_reverseitemiterator", "odict_iterator", "itertools.zip_longest", "itertools.pairwise"].contains n && vs[0]? == some (rawInt _)) = true then _ else _) Q E s
           rw [if_neg (by intro h; rw [hn, Bool.false_and] at h; cases h)]
           exact wpAny_pure hQ))
def Itl (K : PySem.W.Frag) (a : Addr) : It :=
  ⟨fun i H => ∃ xs x, SqL K H a xs ∧ xs[i]? = some x, fun i H x H' => H' = H ∧ ∀ xs, SqL K H a xs → xs[i]? = some x, fun i H => ∃ xs, SqL K H a xs ∧ xs.length ≤ i⟩
def Itr (lo : Int) (n : Nat) : It := ⟨fun i _ => i < n, fun i H x H' => H' = H ∧ x = .int (lo + i), fun i _ => n ≤ i⟩
theorem turn_list {P : Program} {w : World} {K : PySem.W.Frag} {tg : Expr} (a it : Addr) : Turn P w K tg (Itl K a) [it] it (fun i h => h.IsListIter it a i) where
  mem := by simp
  obj := fun i h st b hb => by
    have e : b = it := by simpa using hb
    subst e
    obtain ⟨o, e, c, d⟩ := st
    exact ⟨o, e, fun v z => by rw [d] at z; cases z⟩
  keep := fun i h h' st k => st.at fun o e => k it (by simp) o e
  item := by
    intro X hP hw hK hc i pins s σ H E I hf st hg
    subst hP hw hK
    obtain ⟨xs, x, hq, hx⟩ := hg
    obtain ⟨its, rv, p, hz⟩ := I.list hq
    obtain ⟨u, hu, ru⟩ := rv.get hx
    obtain ⟨f0, f1, f2, f3, f4, f5⟩ := hf it (by simp)
    refine wpAny_pyNext_list_item st p.isList (x := u) (by simpa using hu) fun h' st' sb => ?_
    have I1 : Inv X pins σ H { s with heap := h' } := I.turned (t' := s.toks) (fun b o hb e => (sb.2 b hb).trans e) f0 f1 f3 f4 f5
    obtain ⟨o, e, c, d⟩ := id st'
    exact ⟨u, rfl, go_of (s := { s with heap := h' }) e c d (by decide) ⟨x, H, I1, ru, ⟨rfl, fun ys hy => by rw [I.list_inj hy hq]; exact hx⟩, st', fun b hb => (hf b hb).1⟩⟩
  done := by
    intro X hP hw hK hc i pins s σ H E I hf st hg
    subst hP hw hK
    obtain ⟨xs, hq, hx⟩ := hg
    obtain ⟨its, rv, p, hz⟩ := I.list hq
    obtain ⟨f0, f1, f2, f3, f4, f5⟩ := hf it (by simp)
    have hl := rv.length
    exact wpAny_pyNext_list_end (I.ok.hd hc) st p.isList (by simp; omega) fun h' eb => ⟨rfl, I.turned (t' := s.toks) (fun b o hb e => eb b o hb e) f0 f1 f3 f4 f5⟩
  self := fun _ _ _ _ _ st h => wpAny_pyIter_listiter st h
theorem turn_range {P : Program} {w : World} {K : PySem.W.Frag} {tg : Expr} (it : Addr) (lo : Int) (n : Nat) : Turn P w K tg (Itr lo n) [it] it (fun i h => IsRangeIter h it (lo + (i : Nat) * 1) ((n : Int) - (i : Nat)) 1) where
  mem := by simp
  obj := fun i h st b hb => by
    have e : b = it := by simpa using hb
    subst e
    exact ⟨_, st, fun v z => by
      have z' : Data.fields _ = Data.cell v := z
      cases z'⟩
  keep := fun i h h' st k => k it (by simp) _ st
  item := by
    intro X hP hw hK hc i pins s σ H E I hf st hg
    subst hP hw hK
    obtain ⟨f0, f1, f2, f3, f4, f5⟩ := hf it (by simp)
    have W := Walks.range (prog := X.prog) (w := X.w) (I.ok.hd hc) it lo 1 n
    refine W.item i s _ _ hg st fun v h' tk hv st' kk => ?_
    obtain ⟨t, rfl⟩ := hv
    have I1 : Inv X pins σ H { s with heap := h', toks := tk } := I.turned (fun b o hb e => kk b o (by simpa using hb) e) f0 f1 f3 f4 f5
    refine ⟨_, rfl, go_of (s := { s with heap := h', toks := tk }) (n := "range_iterator") st' rfl rfl (by decide) ⟨.int (lo + i), H, I1, ⟨t, ?_⟩, ⟨rfl, rfl⟩, st', fun b hb => (hf b hb).1⟩⟩
    rw [Int.mul_one]
  done := by
    intro X hP hw hK hc i pins s σ H E I hf st hg
    subst hP hw hK
    obtain ⟨f0, f1, f2, f3, f4, f5⟩ := hf it (by simp)
    exact wpAny_pyNext_range_end (I.ok.hd hc) st (by have : n ≤ i := hg; omega) fun h' eb => ⟨rfl, I.turned (t' := s.toks) (fun b o hb e => eb b o hb e) f0 f1 f3 f4 f5⟩
  self := fun _ _ _ _ _ st h => wpAny_pyIter_rangeiter st h
end L2
namespace L2
open PySem PySem.Spec PyProof.Rows
section
variable {X : Cx} {tg : Expr}
def iList (K : PySem.W.Frag) (tl : TE) : TI := fun σ H R => tl σ H fun x H1 => ∃ a, x = .ref a ∧ (∃ xs, SqL K H1 a xs) ∧ R (Itl K a) H1
theorem pi_list {l : Expr} {tl : TE} (hl : PE X l tl) : PI X tg l (iList X.K tl) := by
  intro pins s σ H R I h
  refine thn (hl pins s σ H _ I h) fun v s1 ⟨x, H1, I1, r1, q1⟩ => ?_
  obtain ⟨a, e, ⟨xs, hq⟩, q⟩ := q1
  subst e
  cases r1
  obtain ⟨its, rv, p, hz⟩ := I1.list hq
  refine wpAny_pyIter_list p.isList ?_
  refine ⟨s1.heap.objs.size, [s1.heap.objs.size], _, _, H1, rfl, I1.kept (t' := s1.toks) fun b o e => Heap.get?_push_of_some _ e, turn_list a _, ⟨_, Heap.get?_push_size _ rfl, rfl, rfl⟩, fun b hb => ?_, q⟩
  have e : b = s1.heap.objs.size := by simpa using hb
  subst e
  exact I1.fpOk (Nat.le_refl _) (I1.hok.fresh (Nat.le_refl _))
theorem range_it {pins : List (Addr × Obj)} {σ : St} {H : Hp} {s : Shared} {R : It → Hp → Prop} {E : Value → Shared → Prop} {lo hi : Int} {t u v : Tok} {tk : Nat} (I : Inv X pins σ H s) (h1 : -(2 ^ 62) ≤ lo) (h2 : lo < 2 ^ 62) (h3 : -(2 ^ 62) ≤ hi) (h4 : hi < 2 ^ 62)
    (q : R (Itr lo (hi - lo).toNat) H) : wpAny (model X.prog X.w) X.A (pyIter (.ref s.heap.objs.size)) (PIE X pins σ tg R) E { s with heap := s.heap.push { cls := .type "range", data := .fields #[.int lo t, .int hi u, .int 1 v] }, toks := tk } := by
  refine wpAny_pyIter_range (IsRange.new ..) (small_one h1 h2 h3 h4) ?_
  have I1 : Inv X pins σ H { s with heap := s.heap.push { cls := .type "range", data := .fields #[.int lo t, .int hi u, .int 1 v] }, toks := tk } := I.kept fun b o e => Heap.get?_push_of_some _ e
  refine ⟨(s.heap.push { cls := .type "range", data := .fields #[.int lo t, .int hi u, .int 1 v] }).objs.size, [(s.heap.push { cls := .type "range", data := .fields #[.int lo t, .int hi u, .int 1 v] }).objs.size], _, _, H, rfl,
    I1.kept (t' := tk) fun b o e => Heap.get?_push_of_some _ e, turn_range _ lo (hi - lo).toNat, ?_, fun b hb => ?_, q⟩
  · have e1 : lo + ((0 : Nat) : Int) * 1 = lo := by simp
    have e2 : (((hi - lo).toNat : Nat) : Int) - ((0 : Nat) : Int) = Builtin.Range.rangeSize lo hi 1 := by rw [rangeSize_one]; split <;> omega
    show IsRangeIter _ _ (lo + ((0 : Nat) : Int) * 1) ((((hi - lo).toNat : Nat) : Int) - ((0 : Nat) : Int)) 1
    rw [e1, e2]
    exact Heap.get?_push_size _ rfl
  · have e : b = (s.heap.push { cls := .type "range", data := .fields #[.int lo t, .int hi u, .int 1 v] }).objs.size := by simpa using hb
    subst e
    exact I1.fpOk (Nat.le_refl _) (I1.hok.fresh (Nat.le_refl _))
def iRng1 (ta : TA) : TI := fun σ H R => ta σ H fun vs H1 => ∃ j : Int, vs = [.int j] ∧ -(2 ^ 62) ≤ j ∧ j < 2 ^ 62 ∧ R (Itr 0 j.toNat) H1
def iRng2 (ta : TA) : TI := fun σ H R => ta σ H fun vs H1 => ∃ i j : Int, vs = [.int i, .int j] ∧ (-(2 ^ 62) ≤ i ∧ i < 2 ^ 62 ∧ -(2 ^ 62) ≤ j ∧ j < 2 ^ 62) ∧ R (Itr i (j - i).toNat) H1
theorem pi_range1 {a : Expr} {ta : TA} {p pos : Pos} (hg : Gl X "range") (hm : X.mg "range" = none) (ha : PA X [a] ta) (hs : starEach [a] X.env = [(false, eval a X.env)] := by rfl) : PI X tg (.Call (.Name "range" p) [a] [] pos) (iRng1 ta) := by
  intro pins s σ H R I h
  refine Call_ (ld_blt I hg hm boot_range (PyProof.Rows.callWith_type1 (thn (ha pos pins s σ H _ I h) fun us s1 ⟨vs, H1, I1, r1, q1⟩ => ?_) hs rfl))
  obtain ⟨j, e, q1, q2, q⟩ := q1
  subst e
  cases r1 with
  | cons r rr =>
    cases rr
    obtain ⟨t, rfl⟩ := r
    exact call_range_1 (range_it I1 (by omega) (by omega) q1 q2 (by simpa using q))
theorem pi_range2 {a b : Expr} {ta : TA} {p pos : Pos} (hg : Gl X "range") (hm : X.mg "range" = none) (ha : PA X [a, b] ta) (hs : starEach [a, b] X.env = [(false, eval a X.env), (false, eval b X.env)] := by rfl) (hs2 : starEach [b] X.env = [(false, eval b X.env)] := by rfl) :
    PI X tg (.Call (.Name "range" p) [a, b] [] pos) (iRng2 ta) := by
  intro pins s σ H R I h
  refine Call_ (ld_blt I hg hm boot_range (PyProof.Rows.callWith_type1 (thn (ha pos pins s σ H _ I h) fun us s1 ⟨vs, H1, I1, r1, q1⟩ => ?_) (by rw [hs, hs2]) (by rw [hs2]; rfl)))
  obtain ⟨i, j, e, ⟨q1, q2, q3, q4⟩, q⟩ := q1
  subst e
  cases r1 with
  | cons r rr =>
    cases rr with
    | cons r' rr =>
      cases rr
      obtain ⟨t, rfl⟩ := r
      obtain ⟨t', rfl⟩ := r'
      exact call_range_2 (range_it I1 q1 q2 q3 q4 q)
def tFor (wi : TI) (g : TG) (tb : TS) : TS := fun D σ H => wi σ H fun J H1 => ∃ W : Nat → Nat → St → Hp → Prop, (∃ m, W 0 m σ H1) ∧ ∀ i m σ H, W i m σ H →
  (J.stop i H ∧ D.nx σ H) ∨ (J.go i H ∧ ∃ N : St → Hp → Prop, (∀ σ' H', N σ' H' → ∃ m', m' < m ∧ W (i + 1) m' σ' H') ∧ ∀ x H', J.yld i H x H' → g x σ H' fun σ2 H2 => tb { D with nx := N, ct := N, bk := D.nx } σ2 H2)
def pinsAt (fp : List Addr) (h : Heap) : List (Addr × Obj) := fp.filterMap fun b => (h.get? b).map fun o => (b, o)
theorem mem_pinsAt {fp : List Addr} {h : Heap} {b : Addr} {o : Obj} (hb : b ∈ fp) (e : h.get? b = some o) : (b, o) ∈ pinsAt fp h := List.mem_filterMap.mpr ⟨b, hb, by rw [e]; rfl⟩
theorem of_pinsAt {fp : List Addr} {h : Heap} {p : Addr × Obj} (hp : p ∈ pinsAt fp h) : p.1 ∈ fp ∧ h.get? p.1 = some p.2 := by
  obtain ⟨b, hb, e⟩ := List.mem_filterMap.mp hp
  cases q : h.get? b with
  | none => rw [q] at e; cases e
  | some o =>
    rw [q] at e
    have e' : (b, o) = p := Option.some.inj e
    subst e'
    exact ⟨hb, q⟩
theorem Inv.pinned {pins : List (Addr × Obj)} {σ : St} {H : Hp} {s : Shared} {fp : List Addr} (I : Inv X pins σ H s) (hf : ∀ b ∈ fp, FpOk X pins H b) (ho : ∀ b ∈ fp, ∃ o, s.heap.get? b = some o ∧ ∀ v, o.data ≠ .cell v) : Inv X (pins ++ pinsAt fp s.heap) σ H s :=
  I.pins_of fun p hp => (List.mem_append.mp hp).elim (fun z => I.pin p (List.mem_append_right _ z)) fun z => by
    obtain ⟨hb, e⟩ := of_pinsAt z
    obtain ⟨f0, f1, f2, _⟩ := hf p.1 hb
    obtain ⟨o, e', d⟩ := ho p.1 hb
    rw [e] at e'; cases e'
    exact ⟨e, f0, f1, f2, d⟩
theorem Inv.unpinned {pins pl : List (Addr × Obj)} {σ : St} {H : Hp} {s : Shared} (I : Inv X (pins ++ pl) σ H s) : Inv X pins σ H s := I.pins_of fun p hp => I.pin p (List.mem_append_right _ (List.mem_append_left _ hp))
theorem ps_for {iter : Expr} {body : List Stmt} {wi : TI} {g : TG} {tb : TS} {pos : Pos} (hp : PassesOwn (model X.prog X.w) X.A X.env X.xe) (hc : X.calm = true) (hi : PI X tg iter wi) (hg : PG X tg g) (hb : PSs X body tb)
    (hs : ∀ x, foldedSetIterable iter X.env x = pure x := by intro _; rfl) : PS X (.For tg iter body [] pos) (tFor wi g tb) := by
  intro pins s σ H D I h
  refine wpAny_For (thn (hi pins s σ H _ I h) fun v s1 h1 => thn h1 fun itv s2 h2 => ?_) hs
  obtain ⟨it, fp, tn, J, H2, e, I2, T, st2, f2, W, ⟨m0, w0⟩, turn⟩ := h2
  subst e
  -- what stays true of the iterator's objects through the loop
  have stat : ∀ {H' : Hp}, (∀ b ∈ fp, H' b = none) → ∀ b ∈ fp, FpOk X pins H' b := fun hn b hb => ⟨hn b hb, (f2 b hb).2⟩
  refine codeAny_forLoop_any (fun n s' => ∃ i σ' H', Inv X pins σ' H' s' ∧ tn i s'.heap ∧ (∀ b ∈ fp, H' b = none) ∧ W i n σ' H') ?_ m0 ⟨0, σ, H2, I2, st2, fun b hb => (f2 b hb).1, w0⟩
  rintro n s3 ⟨i, σ3, H3, I3, st3, fr3, w3⟩
  rcases turn i n σ3 H3 w3 with ⟨stop, qn⟩ | ⟨go, N, hN, step⟩
  · refine wpAny_passesOwn hp (thn (T.done X rfl rfl rfl hc i pins s3 σ3 H3 X.xe I3 (stat fr3) st3 stop) fun r s4 ⟨hr, I4⟩ => ?_)
    subst hr
    exact wpAny_execs_nil ⟨σ3, H3, I4, qn⟩
  · refine wpAny_passesOwn hp (thn (T.item X rfl rfl rfl hc i pins s3 σ3 H3 X.xe I3 (stat fr3) st3 go) fun r s4 ⟨u, hr, h4⟩ => ?_)
    subst hr
    refine wpAny_passesOwn hp (thn h4 fun _ s5 ⟨x, H5, I5, r5, y5, st5, fr5⟩ => ?_)
    have I5' := I5.pinned (stat fr5) (T.obj _ _ st5)
    refine wpAny_passesOwn hp (thn (hg _ s5 σ3 H5 x u _ I5' r5 (step x H5 y5)) fun _ s6 ⟨σ6, H6, I6, q6⟩ => ?_)
    refine wpAny_passesOwn hp (thn (hb _ s6 σ6 H6 _ I6 q6) fun f s7 q7 => ?_)
    have again : ∀ {σ7 : St} {H7 : Hp}, Inv X (pins ++ pinsAt fp s5.heap) σ7 H7 s7 → N σ7 H7 → ∃ m, m < n ∧ ∃ i σ' H', Inv X pins σ' H' s7 ∧ tn i s7.heap ∧ (∀ b ∈ fp, H' b = none) ∧ W i m σ' H' := fun {σ7 H7} I7 n7 => by
      obtain ⟨m', hm, w7⟩ := hN σ7 H7 n7
      refine ⟨m', hm, i + 1, σ7, H7, I7.unpinned, T.keep _ _ _ st5 fun b hb o e => (I7.pin (b, o) (List.mem_append_right _ (List.mem_append_right _ (mem_pinsAt hb e)))).1, fun b hb => ?_, w7⟩
      obtain ⟨o, e, d⟩ := T.obj _ _ st5 b hb
      exact (I7.pin (b, o) (List.mem_append_right _ (List.mem_append_right _ (mem_pinsAt hb e)))).2.1
    cases f with
    | next => obtain ⟨σ7, H7, I7, n7⟩ := q7; exact again I7 n7
    | cont => obtain ⟨σ7, H7, I7, n7⟩ := q7; exact again I7 n7
    | brk => obtain ⟨σ7, H7, I7, q7⟩ := q7; exact ⟨σ7, H7, I7.unpinned, q7⟩
    | ret v => obtain ⟨x7, σ7, H7, I7, r7, q7⟩ := q7; exact ⟨x7, σ7, H7, I7.unpinned, r7, q7⟩
end
theorem for_list {K : PySem.W.Frag} {a : Addr} {xs : List V} {g : TG} {tb : TS} {D : Ends} {σ : St} {H : Hp} (Pv : Nat → St → Hp → Prop) (h0 : Pv 0 σ H) (hl : ∀ i σ H, i ≤ xs.length → Pv i σ H → SqL K H a xs)
    (hs : ∀ i x σ H, xs[i]? = some x → Pv i σ H → g x σ H fun σ2 H2 => tb { D with nx := Pv (i + 1), ct := Pv (i + 1), bk := D.nx } σ2 H2) (hd : ∀ σ H, Pv xs.length σ H → D.nx σ H) :
    ∃ W : Nat → Nat → St → Hp → Prop, (∃ m, W 0 m σ H) ∧ ∀ i m σ H, W i m σ H →
      ((Itl K a).stop i H ∧ D.nx σ H) ∨ ((Itl K a).go i H ∧ ∃ N : St → Hp → Prop, (∀ σ' H', N σ' H' → ∃ m', m' < m ∧ W (i + 1) m' σ' H') ∧ ∀ x H', (Itl K a).yld i H x H' → g x σ H' fun σ2 H2 => tb { D with nx := N, ct := N, bk := D.nx } σ2 H2) := by
  refine ⟨fun i m σ H => m = xs.length - i ∧ i ≤ xs.length ∧ Pv i σ H, ⟨xs.length, by simp, Nat.zero_le _, h0⟩, ?_⟩
  rintro i m σ H ⟨rfl, hi, p⟩
  have q := hl i σ H hi p
  by_cases hlt : i < xs.length
  · refine .inr ⟨⟨xs, xs[i], q, by simp [hlt]⟩, Pv (i + 1), fun σ' H' p' => ⟨xs.length - (i + 1), by omega, rfl, hlt, p'⟩, fun x H' y => ?_⟩
    obtain ⟨e, y⟩ := y
    subst e
    exact hs i x σ _ (y xs q) p
  · have e : i = xs.length := by omega
    subst e
    exact .inl ⟨⟨xs, q, Nat.le_refl _⟩, hd σ H p⟩
theorem for_range {lo : Int} {n : Nat} {g : TG} {tb : TS} {D : Ends} {σ : St} {H : Hp} (Pv : Nat → St → Hp → Prop) (h0 : Pv 0 σ H)
    (hs : ∀ i σ H, i < n → Pv i σ H → g (.int (lo + i)) σ H fun σ2 H2 => tb { D with nx := Pv (i + 1), ct := Pv (i + 1), bk := D.nx } σ2 H2) (hd : ∀ σ H, Pv n σ H → D.nx σ H) :
    ∃ W : Nat → Nat → St → Hp → Prop, (∃ m, W 0 m σ H) ∧ ∀ i m σ H, W i m σ H →
      ((Itr lo n).stop i H ∧ D.nx σ H) ∨ ((Itr lo n).go i H ∧ ∃ N : St → Hp → Prop, (∀ σ' H', N σ' H' → ∃ m', m' < m ∧ W (i + 1) m' σ' H') ∧ ∀ x H', (Itr lo n).yld i H x H' → g x σ H' fun σ2 H2 => tb { D with nx := N, ct := N, bk := D.nx } σ2 H2) := by
  refine ⟨fun i m σ H => m = n - i ∧ i ≤ n ∧ Pv i σ H, ⟨n, by simp, Nat.zero_le _, h0⟩, ?_⟩
  rintro i m σ H ⟨rfl, hi, p⟩
  by_cases hlt : i < n
  · refine .inr ⟨hlt, Pv (i + 1), fun σ' H' p' => ⟨n - (i + 1), by omega, rfl, hlt, p'⟩, fun x H' y => ?_⟩
    obtain ⟨e, y⟩ := y
    subst e y
    exact hs i σ _ hlt p
  · have e : i = n := by omega
    subst e
    exact .inl ⟨Nat.le_refl _, hd σ H p⟩
end L2
namespace L2
open PySem PySem.Spec PyProof.Rows
abbrev R2 := V → V → Hp → VK → Prop
def OpR (X : Cx) (f : Value → Value → Sem Value) (r : R2) : Prop :=
  ∀ (pins : List (Addr × Obj)) (s : Shared) (σ : St) (H : Hp) (x y : V) (v u : Value) (Q : VK), Inv X pins σ H s → RelV x v → RelV y u → r x y H Q →
    wpAny (model X.prog X.w) X.A (f v u) (EP X pins σ Q) X.xe s
def UnR (X : Cx) (f : Value → Sem Value) (r : V → Hp → VK → Prop) : Prop :=
  ∀ (pins : List (Addr × Obj)) (s : Shared) (σ : St) (H : Hp) (x : V) (v : Value) (Q : VK), Inv X pins σ H s → RelV x v → r x H Q →
    wpAny (model X.prog X.w) X.A (f v) (EP X pins σ Q) X.xe s
def CallR (X : Cx) (f : Value) (r : List V → Hp → VK → Prop) : Prop :=
  ∀ (pins : List (Addr × Obj)) (s : Shared) (σ : St) (H : Hp) (xs : List V) (us : List Value) (Q : VK), Inv X pins σ H s → Vals xs us → r xs H Q →
    wpAny (model X.prog X.w) X.A (call f us) (EP X pins σ Q) X.xe s
def tOp (r : R2) (ta tb : TE) : TE := fun σ H Q => ta σ H fun x H1 => tb σ H1 fun y H2 => r x y H2 Q
def tUn (r : V → Hp → VK → Prop) (ta : TE) : TE := fun σ H Q => ta σ H fun x H1 => r x H1 Q
def rI (C : Int → Int → Prop) (g : Int → Int → V) : R2 := fun x y H Q => ∃ i j, x = .int i ∧ y = .int j ∧ C i j ∧ Q (g i j) H
def rI0 (g : Int → Int → V) : R2 := fun x y H Q => ∃ i j, x = .int i ∧ y = .int j ∧ Q (g i j) H
def rU (g : Int → V) : V → Hp → VK → Prop := fun x H Q => ∃ i, x = .int i ∧ Q (g i) H
section
variable {X : Cx} {a b c : Expr} {ta tb tc : TE} {pos : Pos}
theorem binT (ha : PE X a ta) (hb : PE X b tb) {pins : List (Addr × Obj)} {s : Shared} {σ : St} {H : Hp} {R : V → V → Hp → Prop} (I : Inv X pins σ H s)
    (h : ta σ H fun x H1 => tb σ H1 fun y H2 => R x y H2) {Q : Value → Shared → Prop} {f : Value → Value → Sem Value}
    (hf : ∀ v u s2 x y H2, Inv X pins σ H2 s2 → RelV x v → RelV y u → R x y H2 → wpAny (model X.prog X.w) X.A (f v u) Q X.xe s2) :
    wpAny (model X.prog X.w) X.A (eval a X.env) (fun v s₁ => wpAny (model X.prog X.w) X.A (eval b X.env) (fun u s₂ => wpAny (model X.prog X.w) X.A (f v u) Q X.xe s₂) X.xe s₁) X.xe s := by
  refine thn (ha pins s σ H _ I h) fun v s1 ⟨x, H1, I1, r1, q1⟩ => ?_
  refine thn (hb pins s1 σ H1 _ I1 q1) fun u s2 ⟨y, H2, I2, r2, q2⟩ => ?_
  exact hf v u s2 x y H2 I2 r1 r2 q2
theorem pe_op {op : Operator} {r : R2} (ho : OpR X (binaryOp op) r) (ha : PE X a ta) (hb : PE X b tb) : PE X (.BinOp a op b pos) (tOp r ta tb) := by
  intro pins s σ H Q I h
  exact wpAny_BinOp (binT ha hb I h fun v u s2 x y H2 I2 rx ry q => ho pins s2 σ H2 x y v u Q I2 rx ry q)
theorem pe_un {op : UnaryOp} {r : V → Hp → VK → Prop} (ho : UnR X (unaryOp op) r) (ha : PE X a ta) : PE X (.UnaryOp op a pos) (tUn r ta) := by
  intro pins s σ H Q I h
  exact UnaryOp_ (thn (ha pins s σ H _ I h) fun v s1 ⟨x, H1, I1, r1, q1⟩ => ho pins s1 σ H1 x v Q I1 r1 q1)
theorem opI {f : Value → Value → Sem Value} {C : Int → Int → Prop} {g : Int → Int → Int}
    (rule : ∀ (i j : Int) (t u : Tok) (s : Shared) (Q : Value → Shared → Prop) (E : Value → Shared → Prop), C i j → Q (.int (g i j) s.toks) { s with toks := s.toks + 1 } → wpAny (model X.prog X.w) X.A (f (.int i t) (.int j u)) Q E s) :
    OpR X f (rI C fun i j => .int (g i j)) := by
  intro pins s σ H x y v u Q I rx ry h
  obtain ⟨i, j, rfl, rfl, hc, q⟩ := h
  obtain ⟨t, rfl⟩ := rx
  obtain ⟨t', rfl⟩ := ry
  exact rule i j t t' s _ _ hc ⟨.int (g i j), H, I.tok _, ⟨_, rfl⟩, q⟩
theorem opI0 {f : Value → Value → Sem Value} {g : Int → Int → Int}
    (rule : ∀ (i j : Int) (t u : Tok) (s : Shared) (Q : Value → Shared → Prop) (E : Value → Shared → Prop), Q (.int (g i j) s.toks) { s with toks := s.toks + 1 } → wpAny (model X.prog X.w) X.A (f (.int i t) (.int j u)) Q E s) :
    OpR X f (rI0 fun i j => .int (g i j)) := by
  intro pins s σ H x y v u Q I rx ry h
  obtain ⟨i, j, rfl, rfl, q⟩ := h
  obtain ⟨t, rfl⟩ := rx
  obtain ⟨t', rfl⟩ := ry
  exact rule i j t t' s _ _ ⟨.int (g i j), H, I.tok _, ⟨_, rfl⟩, q⟩
theorem opB0 {f : Value → Value → Sem Value} {g : Int → Int → Bool}
    (rule : ∀ (i j : Int) (t u : Tok) (s : Shared) (Q : Value → Shared → Prop) (E : Value → Shared → Prop), Q (.bool (g i j)) s → wpAny (model X.prog X.w) X.A (f (.int i t) (.int j u)) Q E s) :
    OpR X f (rI0 fun i j => .bl (g i j)) := by
  intro pins s σ H x y v u Q I rx ry h
  obtain ⟨i, j, rfl, rfl, q⟩ := h
  obtain ⟨t, rfl⟩ := rx
  obtain ⟨t', rfl⟩ := ry
  exact rule i j t t' s _ _ ⟨.bl (g i j), H, I, rfl, q⟩
def CDiv (i j : Int) : Prop := 0 < j ∧ j < 1073741824
def CMul (i j : Int) : Prop := (-(2 ^ 64) < i ∧ i < 2 ^ 64) ∨ (-(2 ^ 64) < j ∧ j < 2 ^ 64)
theorem CMul.ok {i j : Int} (h : CMul i j) : IntMulOk i j := by
  rcases h with ⟨h1, h2⟩ | ⟨h1, h2⟩
  · exact .of_left (intBits_le_64 h1 h2)
  · exact .of_right (intBits_le_64 h1 h2)
theorem op_add : OpR X (binaryOp .Add) (rI0 fun i j => .int (i + j)) := opI0 fun _ _ _ _ _ _ _ q => add_int q
theorem op_sub : OpR X (binaryOp .Sub) (rI0 fun i j => .int (i - j)) := opI0 fun _ _ _ _ _ _ _ q => sub_int q
theorem op_fdiv : OpR X (binaryOp .FloorDiv) (rI CDiv fun i j => .int (i / j)) := opI fun i j _ _ _ _ _ hc q => by
  have h1 : (0 : Int) < j := hc.1
  have h2 : j < 1073741824 := hc.2
  exact floordiv_int (by omega) (by rw [Int.fdiv_eq_ediv_of_nonneg i (by omega)]; exact q) (.inl (PyProof.noPylong_small (by omega)))
theorem op_mod : OpR X (binaryOp .Mod) (rI (fun _ j => 0 < j) fun i j => .int (i % j)) := opI fun i j _ _ _ _ _ hc q => by
  have h1 : (0 : Int) < j := hc
  exact mod_int' (by omega) (by rw [Int.fmod_eq_emod_of_nonneg i (by omega)]; exact q)
theorem unI {f : Value → Sem Value} {g : Int → Int}
    (rule : ∀ (i : Int) (t : Tok) (s : Shared) (Q : Value → Shared → Prop) (E : Value → Shared → Prop), Q (.int (g i) s.toks) { s with toks := s.toks + 1 } → wpAny (model X.prog X.w) X.A (f (.int i t)) Q E s) :
    UnR X f (rU fun i => .int (g i)) := by
  intro pins s σ H x v Q I rx h
  obtain ⟨i, rfl, q⟩ := h
  obtain ⟨t, rfl⟩ := rx
  exact rule i t s _ _ ⟨.int (g i), H, I.tok _, ⟨_, rfl⟩, q⟩
theorem un_neg : UnR X (unaryOp .USub) (rU fun i => .int (-i)) := unI fun _ _ _ _ _ q => neg_int q
end
def scal : V → V → Bool
  | .non, .non => true | .non, .int _ => true | .int _, .non => true | .non, .bl _ => true | .bl _, .non => true | .non, .str _ => true | .str _, .non => true
  | .int _, .int _ => true | .bl _, .bl _ => true | .str _, .str _ => true | .byt _, .byt _ => true
  | .int _, .str _ => true | .str _, .int _ => true | .bl _, .str _ => true | .str _, .bl _ => true
  | _, _ => false
def rEq : R2 := fun x y H Q => scal x y = true ∧ Q (.bl (decide (x = y))) H
def rNe : R2 := fun x y H Q => scal x y = true ∧ Q (.bl (!decide (x = y))) H
theorem dec_int {i j : Int} : decide (V.int i = V.int j) = (i == j) := by
  rw [Bool.eq_iff_iff]
  simp
theorem dec_bl {i j : Bool} : decide (V.bl i = V.bl j) = (i == j) := by
  rw [Bool.eq_iff_iff]
  simp
theorem dec_str {i j : Str} : decide (V.str i = V.str j) = (i == j) := by
  rw [Bool.eq_iff_iff]
  simp
theorem dec_byt {i j : Array UInt8} : decide (V.byt i = V.byt j) = (i.toList == j.toList) := by
  rw [Bool.eq_iff_iff]
  cases i
  cases j
  simp
section
variable {X : Cx} {a b c : Expr} {ta tb tc : TE} {pos : Pos}
theorem fin_bl {pins : List (Addr × Obj)} {σ : St} {H : Hp} {s : Shared} {Q : VK} {k k' : Bool} (I : Inv X pins σ H s) (q : Q (.bl k) H) (e : k = k') : EP X pins σ Q (.bool k') s := by
  subst e
  exact ⟨.bl k, H, I, rfl, q⟩
theorem op_eq : OpR X (compareOp .Eq) rEq := by
  intro pins s σ H x y v u Q I rx ry h
  obtain ⟨hs, q⟩ := h
  cases x with
  | non =>
    cases rx
    cases y with
    | non => cases ry; exact PySem.EqNone.eq_none_none (fin_bl I q (by simp))
    | bl j => cases ry; exact PySem.EqNone.eq_none_bool (fin_bl I q (by simp))
    | int j => obtain ⟨t', rfl⟩ := ry; exact PySem.EqNone.eq_none_int (fin_bl I q (by simp))
    | str j => obtain ⟨t', rfl⟩ := ry; exact PySem.EqNone.eq_none_str (fin_bl I q (by simp))
    | _ => exact absurd (show false = true from hs) Bool.false_ne_true
  | bl i =>
    cases rx
    cases y with
    | non => cases ry; exact PySem.EqNone.eq_bool_none (fin_bl I q (by simp))
    | bl j => cases ry; exact eq_bool (fin_bl I q dec_bl)
    | str j => obtain ⟨t', rfl⟩ := ry; exact PySem.EqMixed.eq_bool_str (fin_bl I q (by simp))
    | _ => exact absurd (show false = true from hs) Bool.false_ne_true
  | int i =>
    obtain ⟨t, rfl⟩ := rx
    cases y with
    | non => cases ry; exact PySem.EqNone.eq_int_none (fin_bl I q (by simp))
    | int j => obtain ⟨t', rfl⟩ := ry; exact eq_int (fin_bl I q dec_int)
    | str j => obtain ⟨t', rfl⟩ := ry; exact PySem.EqMixed.eq_int_str (fin_bl I q (by simp))
    | _ => exact absurd (show false = true from hs) Bool.false_ne_true
  | str i =>
    obtain ⟨t, rfl⟩ := rx
    cases y with
    | non => cases ry; exact PySem.EqNone.eq_str_none (fin_bl I q (by simp))
    | bl j => cases ry; exact PySem.EqMixed.eq_str_bool (fin_bl I q (by simp))
    | int j => obtain ⟨t', rfl⟩ := ry; exact PySem.EqMixed.eq_str_int (fin_bl I q (by simp))
    | str j => obtain ⟨t', rfl⟩ := ry; exact eq_str (fin_bl I q dec_str)
    | _ => exact absurd (show false = true from hs) Bool.false_ne_true
  | byt i =>
    obtain ⟨t, rfl⟩ := rx
    cases y with
    | byt j => obtain ⟨t', rfl⟩ := ry; exact PySem.W.eq_bytes (fin_bl I q dec_byt)
    | _ => exact absurd (show false = true from hs) Bool.false_ne_true
  | _ => cases y <;> exact absurd (show false = true from hs) Bool.false_ne_true
theorem op_ne : OpR X (compareOp .NotEq) rNe := by
  intro pins s σ H x y v u Q I rx ry h
  obtain ⟨hs, q⟩ := h
  cases x with
  | non =>
    cases rx
    cases y with
    | non => cases ry; exact PySem.EqNone.ne_none_none (fin_bl I q (by simp))
    | bl j => cases ry; exact PySem.EqNone.ne_none_bool (fin_bl I q (by simp))
    | int j => obtain ⟨t', rfl⟩ := ry; exact PySem.EqNone.ne_none_int (fin_bl I q (by simp))
    | str j => obtain ⟨t', rfl⟩ := ry; exact PySem.EqNone.ne_none_str (fin_bl I q (by simp))
    | _ => exact absurd (show false = true from hs) Bool.false_ne_true
  | bl i =>
    cases rx
    cases y with
    | non => cases ry; exact PySem.EqNone.ne_bool_none (fin_bl I q (by simp))
    | bl j => cases ry; exact ne_bool (fin_bl I q (congrArg not dec_bl))
    | str j => obtain ⟨t', rfl⟩ := ry; exact PySem.EqMixed.ne_bool_str (fin_bl I q (by simp))
    | _ => exact absurd (show false = true from hs) Bool.false_ne_true
  | int i =>
    obtain ⟨t, rfl⟩ := rx
    cases y with
    | non => cases ry; exact PySem.EqNone.ne_int_none (fin_bl I q (by simp))
    | int j => obtain ⟨t', rfl⟩ := ry; exact ne_int (fin_bl I q (congrArg not dec_int))
    | str j => obtain ⟨t', rfl⟩ := ry; exact PySem.EqMixed.ne_int_str (fin_bl I q (by simp))
    | _ => exact absurd (show false = true from hs) Bool.false_ne_true
  | str i =>
    obtain ⟨t, rfl⟩ := rx
    cases y with
    | non => cases ry; exact PySem.EqNone.ne_str_none (fin_bl I q (by simp))
    | bl j => cases ry; exact PySem.EqMixed.ne_str_bool (fin_bl I q (by simp))
    | int j => obtain ⟨t', rfl⟩ := ry; exact PySem.EqMixed.ne_str_int (fin_bl I q (by simp))
    | str j => obtain ⟨t', rfl⟩ := ry; exact ne_str (fin_bl I q (congrArg not dec_str))
    | _ => exact absurd (show false = true from hs) Bool.false_ne_true
  | byt i =>
    obtain ⟨t, rfl⟩ := rx
    cases y with
    | byt j => obtain ⟨t', rfl⟩ := ry; exact PySem.W.ne_bytes (fin_bl I q (congrArg not dec_byt))
    | _ => exact absurd (show false = true from hs) Bool.false_ne_true
  | _ => cases y <;> exact absurd (show false = true from hs) Bool.false_ne_true
theorem op_lt : OpR X (compareOp .Lt) (rI0 fun i j => .bl (decide (i < j))) := opB0 fun _ _ _ _ _ _ _ q => lt_int q
theorem op_gt : OpR X (compareOp .Gt) (rI0 fun i j => .bl (decide (j < i))) := opB0 fun _ _ _ _ _ _ _ q => gt_int q
theorem op_ge : OpR X (compareOp .GtE) (rI0 fun i j => .bl (decide (j ≤ i))) := opB0 fun _ _ _ _ _ _ _ q => ge_int q
theorem OpR.or {f : Value → Value → Sem Value} {r r' : R2} (h : OpR X f r) (h' : OpR X f r') : OpR X f (fun x y H Q => r x y H Q ∨ r' x y H Q) := by
  intro pins s σ H x y v u Q I rx ry q
  rcases q with q | q
  · exact h pins s σ H x y v u Q I rx ry q
  · exact h' pins s σ H x y v u Q I rx ry q
theorem nomark (b : Expr) {op : CmpOp} (h : op ≠ .In := by decide) (h2 : op ≠ .NotIn := by decide) : behindInMarks op b = false := by
  have e1 : (op == CmpOp.In) = false := by cases op <;> first | rfl | exact absurd rfl h
  have e2 : (op == CmpOp.NotIn) = false := by cases op <;> first | rfl | exact absurd rfl h2
  cases b <;> simp [behindInMarks, e1, e2]
theorem pe_cmpR {op : CmpOp} {r : R2} (ho : OpR X (compareOp op) r) (ha : PE X a ta) (hb : PE X b tb) (hm : behindInMarks op b = false) : PE X (.Compare a [op] [b] pos) (tOp r ta tb) := by
  intro pins s σ H Q I h
  exact wpAny_Compare1 (binT ha hb I h fun v u s2 x y H2 I2 rx ry q => ho pins s2 σ H2 x y v u Q I2 rx ry q) hm
def tTest (t : TE) : TT := fun σ H Q => t σ H fun x H' => ∃ k, x = .bl k ∧ Q k H'
theorem pt_cmpR {op : CmpOp} {r : R2} (ho : OpR X (compareOp op) r) (ha : PE X a ta) (hb : PE X b tb) (hm : behindInMarks op b = false) : PT X (.Compare a [op] [b] pos) (tTest (tOp r ta tb)) := by
  intro pins s σ H Q I h
  refine wpAny_isTrue_Compare1 (thn (ha pins s σ H _ I h) fun v s1 ⟨x, H1, I1, r1, q1⟩ => thn (hb pins s1 σ H1 _ I1 q1) fun u s2 ⟨y, H2, I2, r2, q2⟩ =>
    thn (ho pins s2 σ H2 x y v u _ I2 r1 r2 q2) fun c s3 ⟨z, H3, I3, r3, k, e, q3⟩ => ?_) hm
  subst e
  cases r3
  exact wpAny_truthy_bool ⟨H3, I3, q3⟩
theorem line63 : (sizeLine : Nat) < 2 ^ 63 := by rw [sizeLine_eq]; decide
theorem op_add_str : OpR X (binaryOp .Add) (fun x y H Q => ∃ i j, x = .str i ∧ y = .str j ∧ i.length + j.length ≤ sizeLine ∧ Q (.str (i ++ j)) H) := by
  intro pins s σ H x y v u Q I rx ry h
  obtain ⟨i, j, rfl, rfl, hz, q⟩ := h
  obtain ⟨t, rfl⟩ := rx
  obtain ⟨t', rfl⟩ := ry
  exact add_str (fun t' tk => ⟨.str (i ++ j), H, I.tok _, ⟨_, rfl⟩, q⟩) hz
theorem vals1 {x : V} {us : List Value} (r : Vals [x] us) : ∃ u, us = [u] ∧ RelV x u := by
  cases r with
  | cons r1 r2 => cases r2; exact ⟨_, rfl, r1⟩
theorem vals2 {x y : V} {us : List Value} (r : Vals [x, y] us) : ∃ u w', us = [u, w'] ∧ RelV x u ∧ RelV y w' := by
  cases r with
  | cons r1 r2 =>
    cases r2 with
    | cons r3 r4 => cases r4; exact ⟨_, _, rfl, r1, r3⟩
theorem call_min2 (hc : X.calm = true) : CallR X (.builtin "min") (fun xs H Q => ∃ i j, xs = [.int i, .int j] ∧ Q (.int (if j < i then j else i)) H) := by
  intro pins s σ H xs us Q I r h
  obtain ⟨i, j, rfl, q⟩ := h
  obtain ⟨u, w', rfl, ⟨t, rfl⟩, ⟨t', rfl⟩⟩ := vals2 r
  refine min_two_ints (I.ok.hd hc) fun h' tk k => ⟨_, H, I.kept k, ?_, q⟩
  by_cases hj : j < i
  · rw [if_pos hj, if_pos hj]; exact ⟨_, rfl⟩
  · rw [if_neg hj, if_neg hj]; exact ⟨_, rfl⟩
end
end L2
namespace L2
open PySem PySem.Spec PyProof.Rows
structure ObjM (h : Heap) (x dx C : Addr) (mA : Str → Option Value) : Prop where
  obj : h.get? x = some (PySem.W.instObj C dx)
  ns : h.Ns1 dx mA
  ne : dx ≠ x
theorem lookIn_ns {h : Heap} {dx : Addr} {mA : Str → Option Value} (n : h.Ns1 dx mA) : ∃ od, h.get? dx = some od ∧ ∀ name, PySem.W.lookIn name od = some (mA name) := by
  obtain ⟨o, es, ep, ho, hd, hk, _, hm⟩ := n
  refine ⟨o, ho, fun name => ?_⟩
  have e := hm name
  unfold nsFind findBy at e
  rw [← Array.find?_toList] at e
  unfold PySem.W.lookIn
  rw [hd]
  dsimp only
  split
  · rename_i y q
    rw [q] at e
    exact congrArg some e
  · rename_i q
    rw [q] at e
    have a : es.toList.any (·.refKey) = false := by
      rw [List.any_eq_false]
      intro y hy
      obtain ⟨z, t, hkey⟩ := hk y (Array.mem_toList_iff.mp hy)
      simp [DictEntry.refKey, hkey]
    have a' : ¬ es.toList.any (·.refKey) = true := by rw [a]; exact Bool.false_ne_true
    rw [if_neg a']
    exact congrArg some e
theorem ObjM.look {h : Heap} {x dx C : Addr} {mA : Str → Option Value} (I : ObjM h x dx C mA) : ∃ od, PySem.W.InstAt h x (PySem.W.instObj C dx) C (some od) ∧ ∀ name, PySem.W.lookIn name od = some (mA name) :=
  let ⟨od, ho, hl⟩ := lookIn_ns I.ns
  ⟨od, ⟨I.obj, rfl, rfl, ho⟩, hl⟩
section
variable {prog : Program} {w : World} {A : Around} {E : Value → Shared → Prop} {s : Shared} {K : PySem.W.Frag} {x dx C f : Addr} {mA : Str → Option Value} {name : Str} {v : Value}
end
theorem RelO.some_of {v : V} {o : Option Value} (r : RelO (some v) o) : ∃ u, o = some u ∧ RelV v u := by
  cases o with
  | none => exact (show False from r).elim
  | some u => exact ⟨u, rfl, r⟩
section
variable {P : Program} {w : World} {H H' : Hp} {h h' : Heap} {a C dx : Addr} {fs fs' : List (Str × V)}
end
structure Cls (K : PySem.W.Frag) (C : Addr) : Prop where
  pg : PySem.W.plainGet K C Str.empty = true
  hd : PySem.W.hasDictIn K C = true
  po : PySem.W.plainOver K C = true
  sa : PySem.W.findIn K (.ref C) "__setattr__" = some (some (.builtin "object.__setattr__"))
theorem Cls.get {K : PySem.W.Frag} {C : Addr} (c : Cls K C) (f : Str) : PySem.W.plainGet K C f = true := c.pg
section
variable {X : Cx} {pins : List (Addr × Obj)} {σ : St} {H : Hp} {s : Shared} {a C dx : Addr} {fs : List (Str × V)} {f : Str} {v : V} {A : Around} {E : Value → Shared → Prop}
theorem Inv.made (I : Inv X pins σ H s) : Inv X pins σ (upd (upd H s.heap.objs.size (.own (s.heap.objs.size + 1))) (s.heap.objs.size + 1) (.ins C s.heap.objs.size []))
    { s with heap := (s.heap.push PySem.W.emptyDict).push (PySem.W.instObj C s.heap.objs.size) } := by
  have e1 : (s.heap.push PySem.W.emptyDict).get? s.heap.objs.size = some PySem.W.emptyDict := Heap.get?_push_size s.heap rfl
  have e2 : ((s.heap.push PySem.W.emptyDict).push (PySem.W.instObj C s.heap.objs.size)).get? (s.heap.objs.size + 1) = some (PySem.W.instObj C s.heap.objs.size) := by
    have := Heap.get?_push_size (s.heap.push PySem.W.emptyDict) (o := PySem.W.instObj C s.heap.objs.size) rfl
    rwa [Heap.size_push] at this
  have e3 : (s.heap.push PySem.W.emptyDict).Ns s.heap.objs.size (fun _ => none) := ⟨PySem.W.emptyDict, #[], _, e1, rfl, (fun e he => absurd he (by simp)), fun _ => rfl⟩
  have I1 := I.laid (a := s.heap.objs.size) (o := .own (s.heap.objs.size + 1)) (h' := s.heap.push PySem.W.emptyDict) (t' := s.toks) (fun b u q => Heap.get?_push_of_some _ q) (Nat.le_refl _) ⟨_, e1⟩
  refine I1.laid (a := s.heap.objs.size + 1) (o := .ins C s.heap.objs.size []) (t' := s.toks) (fun b u q => Heap.get?_push_of_some _ q) (Nat.le_of_eq (Heap.size_push _ _)) ?_
  have ne : s.heap.objs.size ≠ s.heap.objs.size + 1 := Nat.ne_of_lt (Nat.lt_succ_self _)
  refine ⟨by rw [upd_ne ne, upd_same], Nat.zero_le _, ne, e2, fun _ => none, (Heap.Ns1.of_empty e3).at fun o q => Heap.get?_push_of_some _ q, fun _ => True.intro, fun y hy => absurd rfl hy⟩
end
section
variable {X : Cx} {o e value : Expr} {f : Str} {pos pos' tpos : Pos} {ta tv : TE}
end
section
variable {X : Cx} {pins : List (Addr × Obj)} {σ : St} {H : Hp} {s : Shared} {A : Around} {E : Value → Shared → Prop} {Q : Value → Shared → Prop} {c : Value} {b : Bool}
inductive TyOf (K : PySem.W.Frag) (H : Hp) : V → Value → Prop where
  | non : TyOf K H .non (.type "NoneType")
  | bl (x : Bool) : TyOf K H (.bl x) (.type "bool")
  | int (i : Int) : TyOf K H (.int i) (.type "int")
  | str (x : Str) : TyOf K H (.str x) (.type "str")
  | flt (x : UInt64) : TyOf K H (.flt x) (.type "float")
  | lst {a : Addr} {xs : List V} (e : H a = some (.lst xs)) : TyOf K H (.ref a) (.type "list")
  | frz {a : Addr} {o : Obj} {xs : List V} (e : H a = some (.frz o (.lst xs))) : TyOf K H (.ref a) (.type "list")
  | tup {a : Addr} {xs : List V} (e : H a = some (.tup xs)) : TyOf K H (.ref a) (.type "tuple")
  | dK {a : Addr} {kvs : List (Key × V)} (e : H a = some (.dK kvs)) : TyOf K H (.ref a) (.type "dict")
  | dT {a : Addr} {kvs : List (List Key × V)} (e : H a = some (.dT kvs)) : TyOf K H (.ref a) (.type "dict")
  | ins {a C dx : Addr} {fs : List (Str × V)} (e : H a = some (.ins C dx fs)) (cl : Cls K C) (ha : PySem.W.findIn K (.ref C) "__class__" = some (some (.builtin "object.__class__")))
      (hn : PySem.W.specialIn K (.builtin "object.__class__") "__get__" = some (some (.builtin "getset_descriptor.__get__"))) (htk : PySem.W.takesIn K (.builtin "object.__class__") = some true)
      (hm : PySem.W.mroIn K C (.type "object") = some true) : TyOf K H (.ref a) (.ref C)
end
end L2
namespace L2
open PySem PySem.Spec PyProof.Rows
structure Room (k : Nat) (A : Around) : Prop where
  hd : A.handled = none
  dp : A.depth + 3 * k + 5 < recursionLimit
  un : A.units + 16 * k + 200 < cLine
theorem Room.mono {j k : Nat} {A : Around} (r : Room k A) (h : j ≤ k) : Room j A := ⟨r.hd, by have := r.dp; omega, by have := r.un; omega⟩
theorem Room.deeper {k : Nat} {A : Around} (r : Room (k + 1) A) (env : Env) : Room k (A.deeper env) :=
  ⟨r.hd, by have := r.dp; show A.depth + 1 + 3 * k + 5 < _; omega, by have := r.un; show A.units + 3 + 16 * k + 200 < _; omega⟩
theorem Room.in1 {k : Nat} {A : Around} (r : Room (k + 1) A) : Room k A.in1 :=
  ⟨r.hd, by have := r.dp; show A.depth + 3 * k + 5 < _; omega, by have := r.un; show A.units + 1 + 16 * k + 200 < _; omega⟩
theorem Room.depth {k : Nat} {A : Around} (r : Room k A) : A.depth < recursionLimit := by have := r.dp; omega
theorem Room.units {k : Nat} {A : Around} (r : Room k A) : A.units + 64 < cLine := by have := r.un; omega
def tNil : TA := fun _ H Q => Q [] H
def tCons (ta : TE) (tr : TA) : TA := fun σ H Q => ta σ H fun x H1 => tr σ H1 fun xs H2 => Q (x :: xs) H2
section
variable {X : Cx} {e : Expr} {es : List Expr} {te : TE} {t : TA} {pos : Pos}
theorem pa_nil : PA X [] tNil := fun _ _ _ _ H Q I h => Calls.spliced_nil ⟨[], H, I, .nil, h⟩
theorem pa_cons (ha : PE X e te) (hr : PA X es t) (hs : starEach (e :: es) X.env = (false, eval e X.env) :: starEach es X.env := by rfl) : PA X (e :: es) (tCons te t) := by
  intro pos pins s σ H Q I h
  rw [hs]
  show wpAny _ _ (spliced ((false, eval e X.env) :: backTo pos (starEach es X.env))) _ _ s
  refine Calls.spliced_cons (thn (ha pins s σ H _ I h) fun u s1 ⟨x, H1, I1, r1, q1⟩ => ?_)
  exact thn (hr pos pins s1 σ H1 _ I1 q1) fun us s2 ⟨xs, H2, I2, r2, q2⟩ => ⟨x :: xs, H2, I2, .cons r1 r2, q2⟩
def tTup (t : TA) : TE := fun σ H Q => t σ H fun xs H1 => xs.length ≤ sizeLine ∧ ∀ p, H1 p = none → Q (.ref p) (upd H1 p (.tup xs))
def tLst (t : TA) : TE := fun σ H Q => t σ H fun xs H1 => xs.length ≤ sizeLine ∧ ∀ p, H1 p = none → Q (.ref p) (upd H1 p (.lst xs))
theorem pe_tup {x1} (h : PA X es t) : PE X (.Tuple es x1 pos) (tTup t) := by
  intro pins s σ H Q I hq
  refine wpAny_Tuple_spliced (thn (h pos pins s σ H _ I hq) fun us s1 ⟨xs, H1, I1, r, z, q⟩ => ⟨by rw [← r.length]; exact z, ?_⟩)
  have hf : H1 s1.heap.objs.size = none := I1.hok.fresh (Nat.le_refl _)
  refine ⟨.ref s1.heap.objs.size, upd H1 s1.heap.objs.size (.tup xs), I1.laid (t' := s1.toks) (fun b u e => Heap.get?_push_of_some _ e) (Nat.le_refl _) ?_, rfl, q _ hf⟩
  exact ⟨z, us, r, ⟨_, Heap.get?_push_size _ rfl, rfl, _, rfl⟩⟩
theorem pe_lst (h : PA X es t) : PE X (.List es pos) (tLst t) := by
  intro pins s σ H Q I hq
  refine wpAny_List_spliced (thn (h pos pins s σ H _ I hq) fun us s1 ⟨xs, H1, I1, r, z, q⟩ => ⟨by rw [← r.length]; exact z, ?_⟩)
  have hf : H1 s1.heap.objs.size = none := I1.hok.fresh (Nat.le_refl _)
  refine ⟨.ref s1.heap.objs.size, upd H1 s1.heap.objs.size (.lst xs), I1.laid (t' := s1.toks) (fun b u e => Heap.get?_push_of_some _ e) (Nat.le_refl _) ?_, rfl, q _ hf⟩
  exact ⟨z, us, 0, r, Heap.get?_push_size _ rfl⟩
end
abbrev Sp := List V → Hp → VK → XK → Prop
abbrev CXT := List Env → Hp → Shared → XK → Value → Shared → Prop
structure Env0 (P : Program) (w : World) (K : PySem.W.Frag) (mg : Str → Option Value) (base : Heap) (A : Around) (outer : List Env) (s : Shared) (H : Hp) : Prop where
  frames : A.frames = some outer
  mod : Mod K mg base
  bs : ∀ b o, base.get? b = some o → s.heap.get? b = some o ∧ H b = none
  bsz : base.objs.size ≤ s.heap.objs.size
  funs : s.heap.FunFrames base outer
  frf : ∀ b ∈ frs outer, H b = none
  hok : HOk P w H s.heap
  bare : AllBare s.gens
def CE (outer : List Env) (P : Program) (w : World) (H : Hp) (s : Shared) (Q : VK) (u : Value) (s' : Shared) : Prop :=
  ∃ v H', s'.os = s.os ∧ AllBare s'.gens ∧ Un (frs outer) [] H H' s.heap s'.heap ∧ HOk P w H' s'.heap ∧ RelV v u ∧ Q v H'
def CR (CX : CXT) (outer : List Env) (P : Program) (w : World) (H : Hp) (s : Shared) (Q : VK) (E : XK) (r : Result) (s' : Shared) : Prop :=
  match r with
  | .ok (.ret u) => CE outer P w H s Q u s'
  | .ok _ => False
  | .error e => CX outer H s E e s'
structure FnOk (P : Program) (w : World) (K : PySem.W.Frag) (mg : Str → Option Value) (base : Heap) (CX : CXT) (k : Nat) (f : Addr) (fd : FuncData) (ps : List Str) (sp : Sp) : Prop where
  len : ∀ vs H Q E, sp vs H Q E → vs.length = ps.length
  run : ∀ (A : Around) (outer : List Env) (s : Shared) (H : Hp) (args : Args) (us : List Value) (vs : List V) (Q : VK) (E : XK), Room k A → Env0 P w K mg base A outer s H → BindsTo s fd args (ps.zip us) → Vals vs us → sp vs H Q E →
    codeAny (model P w) A (.call (.ref f) args) (CR CX outer P w H s Q E) s
theorem FnOk.mono {P : Program} {w : World} {K : PySem.W.Frag} {mg : Str → Option Value} {base : Heap} {CX : CXT} {j k : Nat} {f : Addr} {fd : FuncData} {ps : List Str} {sp : Sp} (F : FnOk P w K mg base CX j f fd ps sp) (h : j ≤ k) :
    FnOk P w K mg base CX k f fd ps sp := ⟨F.len, fun A outer s H args us vs Q E hr => F.run A outer s H args us vs Q E (hr.mono h)⟩
theorem FnOk.imp {P : Program} {w : World} {K : PySem.W.Frag} {mg : Str → Option Value} {base : Heap} {CX : CXT} {k : Nat} {f : Addr} {fd : FuncData} {ps : List Str} {sp sp' : Sp} (F : FnOk P w K mg base CX k f fd ps sp)
    (h : ∀ vs H Q E, sp' vs H Q E → sp vs H Q E) : FnOk P w K mg base CX k f fd ps sp' :=
  ⟨fun vs H Q E q => F.len vs H Q E (h _ _ _ _ q), fun A outer s H args us vs Q E hr he hb hv hs => F.run A outer s H args us vs Q E hr he hb hv (h _ _ _ _ hs)⟩
theorem Env0.in1 {P : Program} {w : World} {K : PySem.W.Frag} {mg : Str → Option Value} {base : Heap} {A : Around} {outer : List Env} {s : Shared} {H : Hp} (e : Env0 P w K mg base A outer s H) :
    Env0 P w K mg base A.in1 outer s H := ⟨e.frames, e.mod, e.bs, e.bsz, e.funs, e.frf, e.hok, e.bare⟩
section
variable {X : Cx} {pins : List (Addr × Obj)} {σ : St} {H : Hp} {s s' : Shared}
theorem Inv.env0 (I : Inv X pins σ H s) : Env0 X.prog X.w X.K X.mg X.base X.A X.stack s H :=
  ⟨I.ok.frames, I.ok.mod, I.bs, Nat.le_trans I.ok.bsz I.sz, I.stack, I.stkFree, I.hok, I.bare⟩
theorem Inv.after {Q : VK} {u : Value} (I : Inv X pins σ H s) (h : CE X.stack X.prog X.w H s Q u s') : EP X pins σ Q u s' := by
  obtain ⟨v, H', os, bare, un, hok, r, q⟩ := h
  obtain ⟨hh, g, d, t, os'⟩ := s'
  obtain rfl : os' = s.os := os
  exact ⟨v, H', I.call (h' := hh) (g' := g) (d' := d) (t' := t) (ch := []) un hok bare (fun b z => absurd z (by simp)), r, q⟩
end
def tCall (sp : Sp) (dvs : List V) (E : XK) (t : TA) : TE := fun σ H Q => t σ H fun vs H1 => sp (vs ++ dvs) H1 Q E
def Binds (K : PySem.W.Frag) (fd : FuncData) (ps : List Str) (ds : List Value) : Prop :=
  ∀ (s : Shared) (us : List Value), K.In s.heap → (us ++ ds).length = ps.length → BindsTo s fd ⟨us, []⟩ (ps.zip (us ++ ds))
theorem Binds.all {K : PySem.W.Frag} {fd : FuncData} {ps : List Str} (h : ∀ us : List Value, us.length = ps.length → bindArgs fd ⟨us, []⟩ = pure (ps.zip us)) : Binds K fd ps [] := fun s us _ hl => by
  rw [List.append_nil] at hl ⊢
  exact .of_eq (h us hl)
def Passes (CX : CXT) (X : Cx) (E : XK) : Prop := ∀ (pins : List (Addr × Obj)) (σ : St) (H : Hp) (s : Shared) (e : Value) (s' : Shared), Inv X pins σ H s → CX X.stack H s E e s' → X.xe e s'
section
variable {X : Cx} {CX : CXT} {k : Nat} {f C : Addr} {fd : FuncData} {ps : List Str} {sp : Sp} {dvs : List V} {ds : List Value} {E : XK} {x m : Str} {p pos apos : Pos} {e o : Expr} {es : List Expr} {ta : TE} {t : TA}
theorem run_fn {pins : List (Addr × Obj)} {σ : St} {H : Hp} {s : Shared} {Q : VK} {us : List Value} {vs : List V} (F : FnOk X.prog X.w X.K X.mg X.base CX k f fd ps sp) (hr : Room k X.A) (hb : Binds X.K fd ps ds) (hd : Vals dvs ds) (hx : Passes CX X E)
    (I : Inv X pins σ H s) (r : Vals vs us) (h : sp (vs ++ dvs) H Q E) : wpAny (model X.prog X.w) X.A (call (.ref f) us) (EP X pins σ Q) X.xe s := by
  have r2 : Vals (vs ++ dvs) (us ++ ds) := r.append hd
  have hl : (us ++ ds).length = ps.length := by rw [← r2.length]; exact F.len _ _ _ _ h
  refine wpAny_call (codeAny_mono (F.run X.A X.stack s H ⟨us, []⟩ (us ++ ds) (vs ++ dvs) Q E hr I.env0 (hb s us I.kIn hl) r2 h) fun r s' hq => ?_)
  cases r with
  | error e => exact hx pins σ H s e s' I hq
  | ok fl =>
    cases fl with
    | ret u => exact I.after hq
    | next => exact False.elim hq
    | brk => exact False.elim hq
    | cont => exact False.elim hq
theorem pe_call (F : FnOk X.prog X.w X.K X.mg X.base CX k f fd ps sp) (hr : Room k X.A) (hg : Gl X x) (hm : X.mg x = some (.ref f)) (hk : PySem.W.keepIn X.K (.ref f) = true) (hb : Binds X.K fd ps ds) (hd : Vals dvs ds) (hx : Passes CX X E)
    (ha : PA X (e :: es) t) (hdb : (x == ("__debug__" : Str)) = false := by decide) (he : starEach (e :: es) X.env = (false, eval e X.env) :: starEach es X.env := by rfl) (hpl : (backTo pos (starEach es X.env)).any (·.1) = false := by rfl) :
    PE X (.Call (.Name x p) (e :: es) [] pos) (tCall sp dvs E t) := by
  intro pins s σ H Q I h
  refine wpAny_Call_Name_kw (ld_glob I hg hm ?_ hdb)
  refine PySem.W.callWith_K (h₀ := X.base) I.ok.mod.kin hk (thn (ha pos pins s σ H _ I h) fun us s1 ⟨vs, H1, I1, r, q⟩ => ⟨I1.kIn, ?_⟩) he hpl
  exact run_fn F hr hb hd hx I1 r q
structure Mk (K : PySem.W.Frag) (C f : Addr) : Prop where
  makes : PySem.W.makesIn K C = true
  init : PySem.W.findIn K (.ref C) "__init__" = some (some (.ref f))
  fn : PySem.W.isFn K (.ref f) = true
  kp : PySem.W.keepIn K (.ref C) = true
end
section
variable {X : Cx} {CX : CXT} {k : Nat} {f C : Addr} {fd : FuncData} {ps ks : List Str} {sp : Sp} {E : XK} {x m : Str} {p pos apos kpos : Pos} {e o : Expr} {es : List Expr} {kws : List Keyword} {te ta : TE} {t tk : TA} {nm : Option Str}
variable {g : List Value → List Value → List Value} {gV : List V → List V → List V}
end
structure FnScope (N P : List Str) (sc : Scope) : Prop where
  kind : sc.kind = .function
  co : sc.isCoroutine = false
  gen : sc.isGenerator = false
  nd : N.Nodup
  pre : N.take P.length = P
  par : ∀ x ∈ P, sc.names.lookup x = some .local ∨ sc.names.lookup x = some .cell
  nofree : ∀ y ∈ sc.names, y.2 ≠ .free
theorem bindL_out {kindOf : Str → Option NameKind} {x : Str} : ∀ {binds : List (Str × Value)} {m : Str → Option Value}, (∀ v, (x, v) ∉ binds) → bindL kindOf binds m x = m x
  | [], _, _ => rfl
  | (n, v) :: r, m, h => by
    unfold bindL
    rw [bindL_out fun w hw => h w (List.mem_cons_of_mem _ hw)]
    split
    · have : x ≠ n := by rintro rfl; exact h v List.mem_cons_self
      simp [this]
    · rfl
theorem bindC_out {kindOf : Str → Option NameKind} {x : Str} : ∀ {binds : List (Str × Value)} {m : Str → Option Value}, (∀ v, (x, v) ∉ binds) → bindC kindOf binds m x = m x
  | [], _, _ => rfl
  | (n, v) :: r, m, h => by
    unfold bindC
    rw [bindC_out fun w hw => h w (List.mem_cons_of_mem _ hw)]
    split
    · rfl
    · have : x ≠ n := by rintro rfl; exact h v List.mem_cons_self
      simp [this]
theorem bindL_get {kindOf : Str → Option NameKind} {x : Str} {v : Value} : ∀ {P : List Str} {vs : List Value} {i : Nat} {m : Str → Option Value}, P.Nodup → P[i]? = some x → vs[i]? = some v → kindOf x = some .local →
    bindL kindOf (P.zip vs) m x = some v
  | [], _, _, _, _, h, _, _ => by simp at h
  | _ :: _, [], _, _, _, _, h, _ => by simp at h
  | p :: P, w :: vs, 0, m, nd, h1, h2, hk => by
    simp at h1 h2; subst h1; subst h2
    show bindL kindOf ((p, w) :: P.zip vs) m p = _
    unfold bindL
    rw [bindL_out fun v hv => (List.nodup_cons.mp nd).1 (List.of_mem_zip hv).1, if_pos hk]
    simp
  | p :: P, w :: vs, i + 1, m, nd, h1, h2, hk => by
    show bindL kindOf ((p, w) :: P.zip vs) m x = _
    unfold bindL
    exact bindL_get (i := i) (List.nodup_cons.mp nd).2 (by simpa using h1) (by simpa using h2) hk
theorem bindC_get {kindOf : Str → Option NameKind} {x : Str} {v : Value} : ∀ {P : List Str} {vs : List Value} {i : Nat} {m : Str → Option Value}, P.Nodup → P[i]? = some x → vs[i]? = some v → kindOf x ≠ some .local →
    bindC kindOf (P.zip vs) m x = some v
  | [], _, _, _, _, h, _, _ => by simp at h
  | _ :: _, [], _, _, _, _, h, _ => by simp at h
  | p :: P, w :: vs, 0, m, nd, h1, h2, hk => by
    simp at h1 h2; subst h1; subst h2
    show bindC kindOf ((p, w) :: P.zip vs) m p = _
    unfold bindC
    rw [bindC_out fun v hv => (List.nodup_cons.mp nd).1 (List.of_mem_zip hv).1, if_neg hk]
    simp
  | p :: P, w :: vs, i + 1, m, nd, h1, h2, hk => by
    show bindC kindOf ((p, w) :: P.zip vs) m x = _
    unfold bindC
    exact bindC_get (i := i) (List.nodup_cons.mp nd).2 (by simpa using h1) (by simpa using h2) hk
def start (N : List Str) (vs : List V) : St := vs.map some ++ List.replicate (N.length - vs.length) none
def cxOf (CX : CXT) (P : Program) (w : World) (K : PySem.W.Frag) (mg : Str → Option Value) (base : Heap) (N : List Str) (qual : Str) (scope : Scope) (f : Addr) (cd : Value) (A : Around) (outer : List Env) (s : Shared) (H : Hp) (E : XK) : Cx where
  prog := P
  w := w
  K := K
  mg := mg
  base := base
  A := A.deeper (envOfC qual scope s.heap.objs.size f cd)
  N := N
  s₀ := s
  H₀ := H
  env := envOfC qual scope s.heap.objs.size f cd
  outer := outer
  stack := envOfC qual scope s.heap.objs.size f cd :: outer
  ex := []
  calm := true
  fn := fun _ => true
  pn := []
  xe := fun e s' => wpAny (model P w) (A.deeper (envOfC qual scope s.heap.objs.size f cd)) (leaving (envOfC qual scope s.heap.objs.size f cd) e) (fun _ s'' => CX outer H s E e s'') (fun e' s'' => CX outer H s E e' s'') s'
theorem cell_has {sc : Scope} {n : Nat} {x : Str} (h : sc.names.lookup x = some .cell) : ∃ c, (cellsFrom n sc.names []).lookup x = some c := by
  have q := PySem.W.cellsFrom_some sc.names n [] (.inl h)
  exact Option.isSome_iff_exists.mp q
theorem inv_start {CX : CXT} {P : Program} {w : World} {K : PySem.W.Frag} {mg : Str → Option Value} {base : Heap} {N ps : List Str} {qual : Str} {scope : Scope} {f : Addr} {cd : Value} {A : Around} {outer : List Env} {s s1 : Shared} {H : Hp} {E : XK} {us : List Value} {vs : List V}
    (S : FnScope N ps scope) (hd : A.handled = none) (e0 : Env0 P w K mg base A outer s H) (hl : vs.length = ps.length) (r : Vals vs us)
    (x : InCallC s s.heap.objs.size (bindL (envOfC qual scope s.heap.objs.size f cd).kindOf (ps.zip us) fun _ => none) (cellsFrom (s.heap.objs.size + 1) scope.names []) (bindC (envOfC qual scope s.heap.objs.size f cd).kindOf (ps.zip us) fun _ => none) s1) :
    Inv (cxOf CX P w K mg base N qual scope f cd A outer s H E) [] (start N vs) H s1 := by
  have hpl : ps.length ≤ N.length := by have := congrArg List.length S.pre; rw [List.length_take] at this; omega
  obtain ⟨h1, tk, rfl, hk⟩ := x.done
  have noA : ∀ b : Addr, b ∉ (cxOf CX P w K mg base N qual scope f cd A outer s H E).ex := fun b z => absurd (show b ∈ ([] : List Addr) from z) (by simp)
  refine ⟨⟨e0.mod, S.kind, rfl, rfl, Nat.le_refl _, fun y z c h1 h2 => ?_, fun y hy => ?_, fun y c _ h => ?_, fun _ => hd, Around.frames_deeper e0.frames, .inr ⟨rfl, rfl⟩, fun b z => absurd z (noA b), e0.bs, e0.bsz, fun b _ _ => noA b, fun b z => absurd z (noA b), e0.funs, e0.frf⟩,
    rfl, e0.bare, Un.kept hk, ⟨_, x.toInCall.ns, fun i y v h1 h2 h3 => ?_⟩, fun y c h => ⟨_, x.cell y c h⟩, e0.hok.fresh (Nat.le_refl _), fun y c h => ?_, fun p hp => absurd (show p ∈ ([] : List (Addr × Obj)) from hp) (by simp), e0.hok.kept hk, ?_⟩
  · exact name_of_addr x.apart (PySem.mem_of_lookup h1) (PySem.mem_of_lookup h2)
  · have hy : scope.names.lookup y = some .cell ∨ scope.names.lookup y = some .free := hy
    rcases hy with hy | hy
    · exact cell_has hy
    · exact absurd rfl (S.nofree _ (PySem.mem_of_lookup hy))
  · exact Nat.le_of_lt (x.above y c (PySem.mem_of_lookup h))
  · have hi : i < vs.length := by
      unfold start at h2
      by_cases hi : i < vs.length
      · exact hi
      · rw [List.getElem?_append_right (by simpa using hi)] at h2
        rw [List.getElem?_replicate] at h2
        split at h2 <;> cases h2
    have ha : vs[i]? = some v := by
      unfold start at h2
      rw [List.getElem?_append_left (by simpa using hi), List.getElem?_map] at h2
      cases e : vs[i]? with
      | none => rw [e] at h2; cases h2
      | some a => rw [e] at h2; cases h2; rfl
    obtain ⟨u, hu, rv⟩ := r.get ha
    have hp : ps[i]? = some y := by
      rw [← S.pre, List.getElem?_take_of_lt (by omega)]; exact h1
    have ndP : ps.Nodup := by rw [← S.pre]; exact S.nd.sublist (List.take_sublist _ _)
    refine ⟨u, rv, ?_⟩
    rcases S.par y (List.mem_of_getElem? hp) with k | k
    · exact .inl ⟨k, bindL_get ndP hp hu k⟩
    · obtain ⟨c, e⟩ := cell_has (n := s.heap.objs.size + 1) k
      refine .inr ⟨.inl k, c, e, ?_⟩
      have q := x.cell y c e
      rw [bindC_get ndP hp hu (by show scope.names.lookup y ≠ _; rw [k]; decide)] at q
      exact q
  · exact e0.hok.fresh (Nat.le_of_lt (x.above y c (PySem.mem_of_lookup h)))
  · unfold start
    show _ = N.length
    rw [List.length_append, List.length_map, List.length_replicate]
    omega
theorem fn_of {CX : CXT} {P : Program} {w : World} {K : PySem.W.Frag} {mg : Str → Option Value} {base : Heap} {k : Nat} {f : Addr} {name qual : Str} {params : Arguments} {body : List Stmt} {scope : Scope} {dV kV doc pm cdv ct oc : Value} {an od : Option Addr}
    {osl : Array (Option Value)} {N ps : List Str} {sp : Sp} (lk : K.lookup f = some ⟨oc, od, .func (PySem.W.fnOf name qual params body scope dV kV doc pm an cdv ct), osl⟩) (hcd : PySem.W.codeIn K cdv qual = true) (S : FnScope N ps scope)
    (len : ∀ vs H Q E, sp vs H Q E → vs.length = ps.length)
    (hbody : ∀ (A : Around) (outer : List Env) (s : Shared) (H : Hp) (vs : List V) (Q : VK) (E : XK), Room k (A.deeper (envOfC qual scope s.heap.objs.size f cdv)) → sp vs H Q E →
      ∃ t, PSs (cxOf CX P w K mg base N qual scope f cdv A outer s H E) body t ∧ t { nx := fun _ H' => Q .non H', rt := Q } (start N vs) H) :
    FnOk P w K mg base CX (k + 1) f (PySem.W.fnOf name qual params body scope dV kV doc pm an cdv ct) ps sp := by
  refine ⟨len, fun A outer s H args us vs Q E hr e0 hb r hsp => ?_⟩
  have hl := len _ _ _ _ hsp
  have KX : K.In s.heap := e0.mod.kin.keeps fun b o e => (e0.bs b o e).1
  have lim : s.heap.NoLimit := e0.mod.nolimit.keeps fun b o e => (e0.bs b o e).1
  have hkind : ∀ y ∈ ps.zip us, scope.names.lookup y.1 = some .local ∨ (scope.names.lookup y.1 = some .cell ∧ ((cellsFrom (s.heap.objs.size + 1) scope.names []).lookup y.1).isSome = true) := fun ⟨n, v⟩ hy => by
    rcases S.par n (List.of_mem_zip hy).1 with q | q
    · exact .inl q
    · exact .inr ⟨q, PySem.W.cellsFrom_some _ _ _ (.inl q)⟩
  refine codeAny_call_function hr.depth (KX _ _ lk) rfl S.co S.gen rfl (PySem.W.codeRec_of KX hcd) (hb _ _ _ _ ?_)
  refine wpAny_newFunctionEnv_cells S.kind hkind fun env he s1 x => ?_
  subst he
  refine ⟨lim.keeps x.toInCall.keep, codeAny_func ?_⟩
  obtain ⟨t, ht, hq⟩ := hbody A outer s H vs Q E (hr.deeper _) hsp
  have I : Inv (cxOf CX P w K mg base N qual scope f cdv A outer s H E) [] (start N vs) H s1 := inv_start S hr.hd e0 hl r x
  refine wpAny_mono (ht [] s1 (start N vs) H _ I hq) (fun fl s' hs => ?_) fun e s' hs => hs
  have fin : ∀ {σ' : St} {H' : Hp} {v : V} {u : Value}, Inv (cxOf CX P w K mg base N qual scope f cdv A outer s H E) [] σ' H' s' → RelV v u → Q v H' → CE outer P w H s Q u s' :=
    fun {σ' H' v u} J rv q => ⟨v, H', J.os, J.bare, J.base, J.hok, rv, q⟩
  cases fl with
  | ret u =>
    obtain ⟨v, σ', H', J, rv, q⟩ := hs
    exact fin J rv q
  | next =>
    obtain ⟨σ', H', J, q⟩ := hs
    exact fin (v := V.non) (u := Value.none) J rfl q
  | brk =>
    obtain ⟨_, _, _, q⟩ := hs
    exact False.elim q
  | cont =>
    obtain ⟨_, _, _, q⟩ := hs
    exact False.elim q
end L2
namespace L2
open PySem PySem.Spec PyProof.Rows
section
variable {X : Cx} {x : Str} {p pos : Pos} {e : Expr} {es : List Expr} {t : TA} {id T : String} {r : List V → Hp → VK → Prop}
def tCB (r : List V → Hp → VK → Prop) (t : TA) : TE := fun σ H Q => t σ H fun vs H1 => r vs H1 Q
theorem pe_callB (hc : CallR X (.builtin id) r) (hg : Gl X x) (hm : X.mg x = none) (hv : bootBuiltins x = some (.builtin id)) (ha : PA X (e :: es) t) (hn : x ≠ "__name__" := by decide) (hdb : (x == ("__debug__" : Str)) = false := by decide)
    (he : starEach (e :: es) X.env = (false, eval e X.env) :: starEach es X.env := by rfl) (hpl : (backTo pos (starEach es X.env)).any (·.1) = false := by rfl) : PE X (.Call (.Name x p) (e :: es) [] pos) (tCB r t) := by
  intro pins s σ H Q I h
  refine wpAny_Call_Name_kw (ld_blt I hg hm hv ?_ hn hdb)
  exact PyProof.Rows.callWith_builtin1 (thn (ha pos pins s σ H _ I h) fun us s1 ⟨vs, H1, I1, r1, q1⟩ => hc pins s1 σ H1 vs us Q I1 r1 q1) he hpl
theorem pe_callTy (hc : CallR X (.type T) r) (hg : Gl X x) (hm : X.mg x = none) (hv : bootBuiltins x = some (.type T)) (ha : PA X (e :: es) t) (hn : x ≠ "__name__" := by decide) (hdb : (x == ("__debug__" : Str)) = false := by decide)
    (he : starEach (e :: es) X.env = (false, eval e X.env) :: starEach es X.env := by rfl) (hpl : (backTo pos (starEach es X.env)).any (·.1) = false := by rfl) : PE X (.Call (.Name x p) (e :: es) [] pos) (tCB r t) := by
  intro pins s σ H Q I h
  refine wpAny_Call_Name_kw (ld_blt I hg hm hv ?_ hn hdb)
  exact PyProof.Rows.callWith_type1 (thn (ha pos pins s σ H _ I h) fun us s1 ⟨vs, H1, I1, r1, q1⟩ => hc pins s1 σ H1 vs us Q I1 r1 q1) he hpl
end
end L2
namespace HT
open PySem PyProof.Rows
section
open PySem.SeqAt
open PySem.AutoSeq1 (wpAny_loadPart')
open PySem.MeetsSeq PySem.MeetsSeq2 PySem.MeetsSeq3
end
section
variable {prog : Program} {w : World} {A : Around} {E : Value → Shared → Prop} {s : Shared}
def sIx (n d : Nat) : Option Int → Nat
  | none => d
  | some v => if v < 0 then (v + (n : Int)).toNat else min v.toNat n
theorem sIx_none (n d : Nat) : sIx n d none = d := rfl
theorem sIx_nat (n d k : Nat) : sIx n d (some (k : Int)) = min k n := by
  show (if (k : Int) < 0 then ((k : Int) + (n : Int)).toNat else min (k : Int).toNat n) = min k n
  rw [if_neg (by omega), Int.toNat_natCast]
theorem sIx_le (n d : Nat) (hd : d ≤ n) (o : Option Int) : sIx n d o ≤ n := by
  cases o with
  | none => exact hd
  | some v =>
    show (if v < 0 then (v + (n : Int)).toNat else min v.toNat n) ≤ n
    by_cases hv : v < 0
    · rw [if_pos hv]; omega
    · rw [if_neg hv]; exact Nat.min_le_right _ _
end
end HT
namespace L2
open PySem PySem.Spec PyProof.Rows
abbrev TO := St → Hp → (Option Int → Hp → Prop) → Prop
def PO (X : Cx) (e : Option Expr) (t : TO) : Prop :=
  ∀ (pins : List (Addr × Obj)) (s : Shared) (σ : St) (H : Hp) (Q : Option Int → Hp → Prop), Inv X pins σ H s → t σ H Q →
    wpAny (model X.prog X.w) X.A (evalPart e X.env) (fun u s' => ∃ o H', Inv X pins σ H' s' ∧ IsPart u o ∧ Q o H') X.xe s
def tNoPart : TO := fun _ H Q => Q none H
def tPart (t : TE) : TO := fun σ H Q => t σ H fun x H1 => ∃ i, x = .int i ∧ Q (some i) H1
section
variable {X : Cx} {e : Expr} {te : TE} {lo hi : Option Expr} {tl th : TO} {pos p2 : Pos}
theorem po_none : PO X none tNoPart := by
  intro pins s σ H Q I h
  rw [evalPart_none]
  exact wpAny_pure ⟨none, H, I, .none, h⟩
theorem po_some (h : PE X e te) : PO X (some e) (tPart te) := by
  intro pins s σ H Q I hw
  rw [evalPart_some]
  refine thn (h pins s σ H _ I hw) fun u s1 ⟨x, H1, I1, r1, q1⟩ => ?_
  obtain ⟨i, rfl, q⟩ := q1
  obtain ⟨t, rfl⟩ := r1
  exact ⟨some i, H1, I1, .int i t, q⟩
def SlR (X : Cx) (r : V → Option Int → Option Int → Hp → VK → Prop) : Prop :=
  ∀ (pins : List (Addr × Obj)) (s : Shared) (σ : St) (H : Hp) (x : V) (v vl vu : Value) (lo hi : Option Int) (sl : Addr) (Q : VK), Inv X pins σ H s → RelV x v → s.heap.IsSliceOf sl vl vu .none → IsPart vl lo → IsPart vu hi → r x lo hi H Q →
    ∃ T id, typeLookup (.type T) "__getitem__" = pure (some (.builtin id)) ∧ s.TypeIs v T ∧ wpAny (model X.prog X.w) X.A (getItem v (.ref sl)) (EP X pins σ Q) X.xe s
theorem SlR.or {r r' : V → Option Int → Option Int → Hp → VK → Prop} (h : SlR X r) (h' : SlR X r') : SlR X (fun x lo hi H Q => r x lo hi H Q ∨ r' x lo hi H Q) := by
  intro pins s σ H x v vl vu lo hi sl Q I rx hs pl pu q
  rcases q with q | q
  · exact h pins s σ H x v vl vu lo hi sl Q I rx hs pl pu q
  · exact h' pins s σ H x v vl vu lo hi sl Q I rx hs pl pu q
def tSl (r : V → Option Int → Option Int → Hp → VK → Prop) (te : TE) (tl th : TO) : TE := fun σ H Q => te σ H fun x H1 => tl σ H1 fun l H2 => th σ H2 fun u H3 => r x l u H3 Q
theorem pe_slice {r : V → Option Int → Option Int → Hp → VK → Prop} (hr : SlR X r) (he : PE X e te) (hl : PO X lo tl) (hu : PO X hi th) : PE X (.Subscript e (.Slice lo hi none p2) pos) (tSl r te tl th) := by
  intro pins s σ H Q I h
  refine Subscript_ (thn (he pins s σ H _ I h) fun v s1 ⟨x, H1, I1, r1, q1⟩ => ?_)
  refine wpAny_Slice (thn (hl pins s1 σ H1 _ I1 q1) fun vl s2 ⟨l, H2, I2, pl, q2⟩ => thn (hu pins s2 σ H2 _ I2 q2) fun vu s3 ⟨u, H3, I3, pu, q3⟩ => ?_)
  rw [evalPart_none]
  refine wpAny_pure ?_
  have I4 : Inv X pins σ H3 { s3 with heap := s3.heap.push { cls := .type "slice", data := .fields #[vl, vu, .none] } } := I3.kept (t' := s3.toks) fun b ob q => Heap.get?_push_of_some _ q
  obtain ⟨T, id, hT, ht, hg⟩ := hr pins { s3 with heap := s3.heap.push { cls := .type "slice", data := .fields #[vl, vu, .none] } } σ H3 x v vl vu l u s3.heap.objs.size Q I4 r1 (Heap.IsSliceOf.new ..) pl pu q3
  show wpAny (model X.prog X.w) X.A (subscriptTail e (.Slice lo hi none p2) v (.ref s3.heap.objs.size)) (EP X pins σ Q) X.xe { s3 with heap := s3.heap.push { cls := .type "slice", data := .fields #[vl, vu, .none] } }
  exact tail_any (ops := [.ref s3.heap.objs.size, v]) ht hT hg (by with_unfolding_all rfl)
def cutV (xs : List V) (lo hi : Option Int) : List V := (xs.drop (HT.sIx xs.length 0 lo)).take (HT.sIx xs.length xs.length hi - HT.sIx xs.length 0 lo)
theorem cutV_length (xs : List V) (lo hi : Option Int) : (cutV xs lo hi).length ≤ xs.length := by
  unfold cutV
  rw [List.length_take, List.length_drop]
  omega
end
end L2
namespace L2
open PySem PySem.Spec PyProof.Rows
def ixN (n : Nat) (i : Int) : Option Nat := if 0 ≤ i then (if i < n then some i.toNat else none) else if -(n : Int) ≤ i then some (i + n).toNat else none
def atI {α : Type} (xs : List α) (i : Int) : Option α := (ixN xs.length i).bind fun j => xs[j]?
theorem ixN_seq {n : Nat} {i : Int} {j : Nat} (h : ixN n i = some j) : seqIndex? i n = some j ∧ j < n ∧ -(n : Int) ≤ i ∧ i < n := by
  unfold ixN at h
  by_cases h0 : 0 ≤ i
  · rw [if_pos h0] at h
    by_cases h1 : i < n
    · rw [if_pos h1] at h
      have e : i.toNat = j := Option.some.inj h
      exact ⟨by rw [seqIndex_of h0 h1, e], by omega, by omega, h1⟩
    · rw [if_neg h1] at h; cases h
  · rw [if_neg h0] at h
    by_cases h1 : -(n : Int) ≤ i
    · rw [if_pos h1] at h
      have e : (i + n).toNat = j := Option.some.inj h
      exact ⟨by rw [seqIndex_neg (by omega) h1, e], by omega, h1, by omega⟩
    · rw [if_neg h1] at h; cases h
theorem atI_get {α : Type} {xs : List α} {i : Int} {v : α} (h : atI xs i = some v) : ∃ j, seqIndex? i xs.length = some j ∧ xs[j]? = some v ∧ j < xs.length ∧ -(xs.length : Int) ≤ i ∧ i < xs.length := by
  unfold atI at h
  cases e : ixN xs.length i with
  | none => rw [e] at h; cases h
  | some j =>
    rw [e] at h
    obtain ⟨h1, h2, h3, h4⟩ := ixN_seq e
    exact ⟨j, h1, h, h2, h3, h4⟩
theorem atI_nat {α : Type} {xs : List α} {j : Nat} {v : α} (h : xs[j]? = some v) : atI xs (j : Int) = some v := by
  have hj : j < xs.length := (List.getElem?_eq_some_iff.mp h).1
  have e : ixN xs.length (j : Int) = some j := by
    unfold ixN
    rw [if_pos (by omega), if_pos (by omega)]; simp
  unfold atI; rw [e]; exact h
def PlainIx (b : Expr) : Prop := ∀ o i, subscripted b false o i = operate [o, i] (getItem o i)
def IxR (X : Cx) (r : R2) : Prop :=
  ∀ (value slice : Expr) (pins : List (Addr × Obj)) (s : Shared) (σ : St) (H : Hp) (x y : V) (v u : Value) (Q : VK), Inv X pins σ H s → RelV x v → RelV y u → r x y H Q →
    subscripted slice false v u = operate [v, u] (getItem v u) → wpAny (model X.prog X.w) X.A (subscriptTail value slice v u) (EP X pins σ Q) X.xe s
def MtR (X : Cx) (id : String) (r : V → List V → Hp → VK → Prop) : Prop :=
  ∀ (pins : List (Addr × Obj)) (s : Shared) (σ : St) (H : Hp) (x : V) (xs : List V) (v : Value) (us : List Value) (Q : VK), Inv X pins σ H s → RelV x v → Vals xs us → r x xs H Q →
    wpAny (model X.prog X.w) X.A (call (.builtin id) (v :: us)) (EP X pins σ Q) X.xe s
section
variable {X : Cx} {a b : Expr} {ta tb : TE} {pos : Pos}
theorem IxR.or {r r' : R2} (h : IxR X r) (h' : IxR X r') : IxR X (fun x y H Q => r x y H Q ∨ r' x y H Q) := by
  intro value slice pins s σ H x y v u Q I rx ry q hs
  rcases q with q | q
  · exact h value slice pins s σ H x y v u Q I rx ry q hs
  · exact h' value slice pins s σ H x y v u Q I rx ry q hs
theorem MtR.or {id : String} {r r' : V → List V → Hp → VK → Prop} (h : MtR X id r) (h' : MtR X id r') : MtR X id (fun x xs H Q => r x xs H Q ∨ r' x xs H Q) := by
  intro pins s σ H x xs v us Q I rx rs q
  rcases q with q | q
  · exact h pins s σ H x xs v us Q I rx rs q
  · exact h' pins s σ H x xs v us Q I rx rs q
theorem pe_ix {r : R2} (hr : IxR X r) (ha : PE X a ta) (hb : PE X b tb) (hs : PlainIx b) : PE X (.Subscript a b pos) (tOp r ta tb) := by
  intro pins s σ H Q I h
  exact Subscript_ (binT ha hb I h fun v u s2 x y H2 I2 rx ry q => hr a b pins s2 σ H2 x y v u Q I2 rx ry q (hs _ _))
def rIxL (K : PySem.W.Frag) : R2 := fun x y H Q => ∃ p xs i v, x = .ref p ∧ y = .int i ∧ SqL K H p xs ∧ atI xs i = some v ∧ Q v H
def rIxT (K : PySem.W.Frag) : R2 := fun x y H Q => ∃ p xs i v, x = .ref p ∧ y = .int i ∧ SqT K H p xs ∧ atI xs i = some v ∧ Q v H
def rIxS : R2 := fun x y H Q => ∃ z i c, x = .str z ∧ y = .int i ∧ z.length ≤ sizeLine ∧ atI z.cps.toList i = some c ∧ Q (.str ⟨#[c]⟩) H
theorem ix_list : IxR X (rIxL X.K) := by
  intro value slice pins s σ H x y v u Q I rx ry h hs
  obtain ⟨p, xs, i, z, rfl, rfl, hq, he, q⟩ := h
  cases rx
  obtain ⟨t, rfl⟩ := ry
  obtain ⟨its, r, pl, hz⟩ := I.list hq
  obtain ⟨j, h1, h2, h3, h4, h5⟩ := atI_get he
  obtain ⟨w, ew, rw'⟩ := r.get h2
  have hl := r.length
  have hn := line63
  have fin : EP X pins σ Q w s := ⟨z, H, I, rw', q⟩
  by_cases h0 : 0 ≤ i
  · have hj : i.toNat = j := by
      rw [seqIndex_of h0 h5] at h1
      exact Option.some.inj h1
    exact item_listR pl.isList h0 (by omega) (by rw [hj]; simpa using ew) fin hs
  · have hj : (i + (its.toArray.size : Int)).toNat = j := by
      rw [seqIndex_neg (by omega) h4] at h1
      rw [List.size_toArray, ← hl]
      exact Option.some.inj h1
    exact subscriptTail_builtinR (x := w) pl.isList.typeIs slot_list_getitem.lookup
      (wpAny_getItem_list_neg (Q := fun r s' => r = w ∧ EP X pins σ Q r s') pl.isList (by omega) (by rw [List.size_toArray] <;> omega) (by omega) (by rw [hj]; simpa using ew) ⟨rfl, fin⟩) hs
theorem ix_tup : IxR X (rIxT X.K) := by
  intro value slice pins s σ H x y v u Q I rx ry h hs
  obtain ⟨p, xs, i, z, rfl, rfl, hq, he, q⟩ := h
  cases rx
  obtain ⟨t, rfl⟩ := ry
  obtain ⟨its, r, pl, hz⟩ := I.tuple hq
  obtain ⟨j, h1, h2, h3, h4, h5⟩ := atI_get he
  obtain ⟨w, ew, rw'⟩ := r.get h2
  have hl := r.length
  have hn := line63
  have fin : EP X pins σ Q w s := ⟨z, H, I, rw', q⟩
  exact subscriptTail_builtinR (x := w) pl.typeIs slot_tuple_getitem.lookup
    (getItem_tuple (j := j) (Q := fun r s' => r = w ∧ EP X pins σ Q r s') pl (by omega) (by omega) (by rw [List.size_toArray, ← hl]; exact h1) (by simpa using ew) ⟨rfl, fin⟩) hs
theorem ix_str : IxR X rIxS := by
  intro value slice pins s σ H x y v u Q I rx ry h hs
  obtain ⟨z, i, c, rfl, rfl, hz, he, q⟩ := h
  obtain ⟨t, rfl⟩ := rx
  obtain ⟨t', rfl⟩ := ry
  obtain ⟨j, h1, h2, h3, h4, h5⟩ := atI_get he
  have hl : z.cps.toList.length = z.length := by simp [Str.length]
  rw [hl] at h1 h4 h5
  have hn := line63
  exact tail_any (typeIs_str s z t) slot_str_getitem.lookup (getItem_str (c := c) (by
    have e1 : decide (i < -(2 ^ 63 : Int)) = false := decide_eq_false (by omega)
    have e2 : decide (i ≥ 2 ^ 63) = false := decide_eq_false (by omega)
    rw [e1, e2, Bool.or_false]) (by rw [h1]; simpa using h2) ⟨.str ⟨#[c]⟩, H, I.tok _, ⟨_, rfl⟩, q⟩) hs
theorem Inv.lst {pins : List (Addr × Obj)} {σ : St} {H : Hp} {s : Shared} {p : Addr} {xs : List V} (I : Inv X pins σ H s) (h : H p = some (.lst xs)) :
    ∃ (its : List Value) (n : Nat), Vals xs its ∧ s.heap.get? p = some { cls := .type "list", data := .seq its.toArray n } ∧ xs.length ≤ sizeLine := by
  obtain ⟨z, its, n, r, e⟩ := I.hok p _ h
  exact ⟨its, n, r, e, z⟩
theorem slice_bounds (lo hi : Option Int) (n : Nat) : (sliceBounds lo hi none n).1 = ((HT.sIx n 0 lo : Nat) : Int) ∧ (sliceBounds lo hi none n).2.1 = ((HT.sIx n n hi : Nat) : Int) ∧ (sliceBounds lo hi none n).2.2 = 1 := by
  refine ⟨?_, ?_, rfl⟩
  · cases lo with
    | none => simp [sliceBounds, HT.sIx]
    | some i =>
      simp only [sliceBounds, HT.sIx, Option.getD_none, show (1 : Int) > 0 by decide, if_true]
      by_cases h : i < 0
      · simp only [h, if_true] <;> omega
      · simp only [h, if_false] <;> omega
  · cases hi with
    | none => simp [sliceBounds, HT.sIx]
    | some i =>
      simp only [sliceBounds, HT.sIx, Option.getD_none, show (1 : Int) > 0 by decide, if_true]
      by_cases h : i < 0
      · simp only [h, if_true] <;> omega
      · simp only [h, if_false] <;> omega
theorem slicePick_cut (its : List Value) (lo hi : Option Int) : slicePick its.toArray lo hi none = ((its.drop (HT.sIx its.length 0 lo)).take (HT.sIx its.length its.length hi - HT.sIx its.length 0 lo)).toArray := by
  obtain ⟨h1, h2, h3⟩ := slice_bounds lo hi its.toArray.size
  unfold slicePick
  rw [h1, h2, h3]
  simp only [sliceRange_one, pick_run, List.size_toArray] <;> rfl
def rSlL (K : PySem.W.Frag) : V → Option Int → Option Int → Hp → VK → Prop := fun x lo hi H Q => ∃ a xs, x = .ref a ∧ SqL K H a xs ∧ ∀ p, H p = none → Q (.ref p) (upd H p (.lst (cutV xs lo hi)))
theorem sl_list : SlR X (rSlL X.K) := by
  intro pins s σ H x v vl vu lo hi sl Q I rx hs pl pu h
  obtain ⟨a, xs, rfl, hx, q⟩ := h
  cases rx
  obtain ⟨its, r, ht, hz⟩ := I.list hx
  have hlen := r.length
  refine ⟨"list", _, slot_list_getitem.lookup, ht.isList.typeIs, ?_⟩
  refine wpAny_getItem_list_slice ht.isList hs pl pu .none (by simp) ?_ (by rw [List.size_toArray] <;> omega)
  rw [slicePick_cut, ← hlen]
  refine ⟨.ref s.heap.objs.size, _, I.laid (t' := s.toks) (o := .lst (cutV xs lo hi)) (fun b ob q => Heap.get?_push_of_some _ q) (Nat.le_refl _) ?_, rfl, q _ (I.hok.fresh (Nat.le_refl _))⟩
  exact ⟨Nat.le_trans (cutV_length xs lo hi) hz, _, 0, (r.drop (HT.sIx xs.length 0 lo)).take (HT.sIx xs.length xs.length hi - HT.sIx xs.length 0 lo), Heap.get?_push_size _ rfl⟩
def flatV : V → Bool
  | .non => true
  | .bl _ => true
  | .int _ => true
  | .str _ => true
  | _ => false
def eqV : V → V → Bool
  | .non, .non => true
  | .bl a, .bl b => a == b
  | .bl a, .int b => (if a then 1 else 0) == b
  | .int a, .bl b => a == (if b then 1 else 0)
  | .int a, .int b => a == b
  | .str a, .str b => a == b
  | _, _ => false
theorem eqAt_V {A : Around} {s : Shared} {y x : V} {u v : Value} (ry : RelV y u) (rx : RelV x v) (fy : flatV y = true) (fx : flatV x = true) : SeqAt.EqAt A s u v (eqV y x) := by
  cases y with
  | non =>
    cases ry
    cases x with
    | non => cases rx; exact SeqAt.EqAt.same _
    | bl b => cases rx; exact SeqAt.EqAt.none_bool b
    | int b => obtain ⟨t, rfl⟩ := rx; exact SeqAt.EqAt.none_int b t
    | str b => obtain ⟨t, rfl⟩ := rx; exact SeqAt.EqAt.none_str b t
    | _ => exact absurd (show false = true from fx) Bool.false_ne_true
  | bl a =>
    cases ry
    cases x with
    | non => cases rx; exact SeqAt.EqAt.bool_none a
    | bl b => cases rx; exact SeqAt.EqAt.bool_bool a b
    | int b => obtain ⟨t, rfl⟩ := rx; exact SeqAt.EqAt.bool_int a b t
    | str b => obtain ⟨t, rfl⟩ := rx; exact SeqAt.EqAt.bool_str a b t
    | _ => exact absurd (show false = true from fx) Bool.false_ne_true
  | int a =>
    obtain ⟨t', rfl⟩ := ry
    cases x with
    | non => cases rx; exact SeqAt.EqAt.int_none a t'
    | bl b => cases rx; exact SeqAt.EqAt.int_bool a t' b
    | int b => obtain ⟨t, rfl⟩ := rx; exact SeqAt.EqAt.int_int a t' b t
    | str b => obtain ⟨t, rfl⟩ := rx; exact SeqAt.EqAt.int_str a t' b t
    | _ => exact absurd (show false = true from fx) Bool.false_ne_true
  | str a =>
    obtain ⟨t', rfl⟩ := ry
    cases x with
    | non => cases rx; exact SeqAt.EqAt.str_none a t'
    | bl b => cases rx; exact SeqAt.EqAt.str_bool a t' b
    | int b => obtain ⟨t, rfl⟩ := rx; exact SeqAt.EqAt.str_int a t' b t
    | str b => obtain ⟨t, rfl⟩ := rx; exact SeqAt.EqAt.str_str a t' b t
    | _ => exact absurd (show false = true from fx) Bool.false_ne_true
  | _ => exact absurd (show false = true from fy) Bool.false_ne_true
def eqU (x : V) (u : Value) : Bool := match u with
  | .none => eqV .non x
  | .bool b => eqV (.bl b) x
  | .int i _ => eqV (.int i) x
  | .str z _ => eqV (.str z) x
  | _ => false
theorem eqU_of {x y : V} {u : Value} (r : RelV y u) (f : flatV y = true) : eqU x u = eqV y x := by
  cases y with
  | non => cases r; rfl
  | bl b => cases r; rfl
  | int i => obtain ⟨t, rfl⟩ := r; rfl
  | str z => obtain ⟨t, rfl⟩ := r; rfl
  | _ => exact absurd (show false = true from f) Bool.false_ne_true
theorem any_eqU {x : V} : ∀ {xs : List V} {us : List Value}, Vals xs us → xs.all flatV = true → us.any (eqU x) = xs.any fun y => eqV y x
  | _, _, .nil, _ => rfl
  | y :: xs, u :: us, .cons r t, f => by
    rw [List.all_cons, Bool.and_eq_true] at f
    rw [List.any_cons, List.any_cons, eqU_of r f.1, any_eqU t f.2]
theorem mem_eqAt {A : Around} {s : Shared} {x : V} {v : Value} (rx : RelV x v) (fx : flatV x = true) : ∀ {xs : List V} {us : List Value}, Vals xs us → xs.all flatV = true → ∀ u ∈ us, SeqAt.EqAt A s u v (eqU x u)
  | _, _, .nil, _ => fun u hu => by cases hu
  | y :: xs, u :: us, .cons r t, f => fun u' hu => by
    rw [List.all_cons, Bool.and_eq_true] at f
    rcases List.mem_cons.mp hu with rfl | hu
    · rw [eqU_of r f.1]; exact eqAt_V r rx f.1 fx
    · exact mem_eqAt rx fx t f.2 u' hu
def inV (x : V) (xs : List V) : Bool := xs.any fun y => eqV y x
def rIn (K : PySem.W.Frag) (neg : Bool) : R2 := fun x y H Q => ∃ p xs, y = .ref p ∧ (SqL K H p xs ∨ SqT K H p xs) ∧ flatV x = true ∧ xs.all flatV = true ∧ Q (.bl (if neg then !inV x xs else inV x xs)) H
theorem op_notIn_seq : OpR X (compareOp .NotIn) (rIn X.K true) := by
  intro pins s σ H x y v u Q I rx ry h
  obtain ⟨p, xs, rfl, hq, fx, fs, q⟩ := h
  cases ry
  rcases hq with hq | hq
  · obtain ⟨its, r, pl, hz⟩ := I.list hq
    refine SeqAt.notIn_listAt (eqU x) pl.isList (fun w hw => mem_eqAt rx fx r fs w (by simpa using hw)) ⟨.bl _, H, I, rfl, ?_⟩
    rw [show its.toArray.any (eqU x) = its.any (eqU x) by simp, any_eqU r fs]
    exact q
  · obtain ⟨its, r, pl, hz⟩ := I.tuple hq
    refine SeqAt.notIn_tupleAt (eqU x) pl (fun w hw => mem_eqAt rx fx r fs w (by simpa using hw)) ⟨.bl _, H, I, rfl, ?_⟩
    rw [show its.toArray.any (eqU x) = its.any (eqU x) by simp, any_eqU r fs]
    exact q
theorem call_len_seq : CallR X (.builtin "len") (fun xs H Q => ∃ p ys, xs = [.ref p] ∧ (SqL X.K H p ys ∨ SqT X.K H p ys) ∧ Q (.int ys.length) H) := by
  intro pins s σ H xs us Q I r h
  obtain ⟨p, ys, rfl, hq, q⟩ := h
  obtain ⟨u, rfl, rx⟩ := vals1 r
  cases rx
  have hn := line63
  rcases hq with hq | hq
  · obtain ⟨its, r', pl, hz⟩ := I.list hq
    have hlen := r'.length
    exact Calls.call_len_list pl.isList (by simp only [List.size_toArray] <;> omega) ⟨.int ys.length, H, I.tok _, ⟨s.toks + 1, by rw [List.size_toArray, hlen]⟩, q⟩
  · obtain ⟨its, r', pl, hz⟩ := I.tuple hq
    have hlen := r'.length
    exact len_tuple pl (by simp only [List.size_toArray] <;> omega) ⟨.int ys.length, H, I.tok _, ⟨s.toks + 1, by rw [List.size_toArray, hlen]⟩, q⟩
theorem call_len_str : CallR X (.builtin "len") (fun xs H Q => ∃ z, xs = [.str z] ∧ z.length ≤ sizeLine ∧ Q (.int z.length) H) := by
  intro pins s σ H xs us Q I r h
  obtain ⟨z, rfl, hz, q⟩ := h
  obtain ⟨u, rfl, t, rfl⟩ := vals1 r
  have hn := line63
  exact len_str (by omega) ⟨.int z.length, H, I.tok _, ⟨_, rfl⟩, q⟩
theorem CallR.or {f : Value} {r r' : List V → Hp → VK → Prop} (h : CallR X f r) (h' : CallR X f r') : CallR X f (fun xs H Q => r xs H Q ∨ r' xs H Q) := by
  intro pins s σ H xs us Q I rs q
  rcases q with q | q
  · exact h pins s σ H xs us Q I rs q
  · exact h' pins s σ H xs us Q I rs q
theorem call_list_of : CallR X (.type "list") (fun xs H Q => ∃ p ys, xs = [.ref p] ∧ (SqL X.K H p ys ∨ SqT X.K H p ys) ∧ ∀ l, H l = none → Q (.ref l) (upd H l (.lst ys))) := by
  intro pins s σ H xs us Q I r h
  obtain ⟨p, ys, rfl, hq, q⟩ := h
  obtain ⟨u, rfl, rx⟩ := vals1 r
  cases rx
  have fin : ∀ (its : List Value), Vals ys its → ys.length ≤ sizeLine → ∀ (h' : Heap) (c' : Nat), (∀ b o', s.heap.get? b = some o' → h'.get? b = some o') →
      h'.get? s.heap.objs.size = some { cls := .type "list", dict := none, data := .seq its.toArray c', slots := #[] } → EP X pins σ Q (.ref s.heap.objs.size) { s with heap := h' } := fun its r' hz h' c' kp e =>
    ⟨.ref s.heap.objs.size, _, I.laid (t' := s.toks) kp (Nat.le_refl _) (show ObjOk X.prog X.w _ h' _ (.lst ys) from ⟨hz, its, c', r', e⟩), rfl, q _ (I.hok.fresh (Nat.le_refl _))⟩
  rcases hq with hq | hq
  · obtain ⟨its, r', pl, hz⟩ := I.list hq
    have hlen := r'.length
    obtain ⟨o, ho, hc, n, hd⟩ := pl.isList
    exact call_list_seq p (.inl rfl) ho hc hd (fun h' c' kp e => fin its r' hz h' c' kp e) (by simp only [List.size_toArray] <;> omega)
  · obtain ⟨its, r', pl, hz⟩ := I.tuple hq
    have hlen := r'.length
    obtain ⟨o, ho, hc, n, hd⟩ := pl
    exact call_list_seq p (.inr rfl) ho hc hd (fun h' c' kp e => fin its r' hz h' c' kp e) (by simp only [List.size_toArray] <;> omega)
def tyV (K : PySem.W.Frag) (T : String) (x : V) (H : Hp) : Prop := match x with
  | .str _ => T = "str"
  | .int _ => T = "int"
  | .ref p => (T = "list" ∧ ∃ xs, SqL K H p xs) ∨ (T = "tuple" ∧ ∃ o, K.lookup p = some o ∧ o.cls = .type "tuple" ∧ o.dict = none) ∨
      (T = "dict" ∧ ((∃ kvs, H p = some (.dK kvs)) ∨ ∃ kvs, H p = some (.dT kvs))) ∨ (T = "set" ∧ ∃ S n, H p = some (.set S n))
  | _ => False
theorem tyV_is {pins : List (Addr × Obj)} {σ : St} {H : Hp} {s : Shared} {T : String} {x : V} {v : Value} (I : Inv X pins σ H s) (r : RelV x v) (ty : tyV X.K T x H) :
    s.TypeIs v T ∧ ∀ a, v = .ref a → ∃ ob, s.heap.get? a = some ob ∧ ob.dict = none := by
  cases x with
  | str z =>
    obtain ⟨t, rfl⟩ := r
    cases (show T = "str" from ty)
    exact ⟨typeIs_str s z t, fun _ e => nomatch e⟩
  | int i =>
    obtain ⟨t, rfl⟩ := r
    cases (show T = "int" from ty)
    exact ⟨typeIs_int s i t, fun _ e => nomatch e⟩
  | ref p =>
    cases r
    rcases ty with ⟨rfl, xs, hq⟩ | ⟨rfl, o, hk, hc, hd⟩ | ⟨rfl, hk⟩ | ⟨rfl, S, n, hk⟩
    · obtain ⟨its, _, pl, _⟩ := I.list hq
      refine ⟨pl.isList.typeIs, fun a e => ?_⟩
      cases e
      obtain ⟨o, n, e, c, hd, _⟩ := pl
      exact ⟨o, e, hd⟩
    · refine ⟨⟨o, I.kIn p o hk, hc⟩, fun a e => ?_⟩
      cases e
      exact ⟨o, I.kIn _ o hk, hd⟩
    · have z : ∃ o, s.heap.get? p = some o ∧ o.ExactDict := by
        rcases hk with ⟨kvs, hk⟩ | ⟨kvs, hk⟩
        · obtain ⟨_, _, _, _, o, _, _, e, ex, _⟩ := I.hok p _ hk
          exact ⟨o, e, ex⟩
        · obtain ⟨_, _, _, _, o, _, _, e, ex, _⟩ := I.hok p _ hk
          exact ⟨o, e, ex⟩
      obtain ⟨o, e, ex⟩ := z
      refine ⟨⟨o, e, ex.1⟩, fun a e2 => ?_⟩
      cases e2
      exact ⟨o, e, ex.2.1⟩
    · obtain ⟨o, _, _, _, e, ex, _⟩ := I.hok p _ hk
      refine ⟨⟨o, e, ex.1⟩, fun a e2 => ?_⟩
      cases e2
      exact ⟨o, e, ex.2.1⟩
  | _ => exact False.elim ty
def tBM0 (K : PySem.W.Frag) (T : String) (r : V → List V → Hp → VK → Prop) (to : TE) : TE := fun σ H Q => to σ H fun x H1 => tyV K T x H1 ∧ r x [] H1 Q
def tBM (K : PySem.W.Frag) (T : String) (r : V → List V → Hp → VK → Prop) (to : TE) (t : TA) : TE := fun σ H Q => to σ H fun x H1 => tyV K T x H1 ∧ t σ H1 fun xs H2 => r x xs H2 Q
variable {o e : Expr} {es : List Expr} {to : TE} {t : TA} {name : Str} {apos cpos : Pos} {T id : String} {r : V → List V → Hp → VK → Prop}
theorem pe_bm (pa : PlainAttrs T) (slot : Slot T name id) (hty : typeOf (.builtin id) = pure (.type "method_descriptor")) (hm : MtR X id r) (ho : PE X o to) (ha : PA X (e :: es) t)
    (hbase : attributeBase o name X.env (eval o X.env) = eval o X.env := by rfl)
    (hfew : ((backTo cpos (starEach (e :: es) X.env)).all (fun x => !x.1) && (backToKw cpos (keywordEach [] X.env)).all (fun x => x.1.isSome)
      && decide ((e :: es).length + ([] : List Keyword).length + (if ([] : List Keyword).isEmpty then 0 else 1) < 30)) = true := by rfl)
    (hline : (apos.endLine == cpos.line) = true := by rfl) (hs : starEach (e :: es) X.env = (false, eval e X.env) :: starEach es X.env := by rfl) (hplain : (backTo cpos (starEach es X.env)).any (·.1) = false := by rfl) :
    PE X (.Call (.Attribute o name apos) (e :: es) [] cpos) (tBM X.K T r to t) := by
  intro pins s σ H Q I h
  refine wpAny_Call_method_late hbase hfew hline rfl (thn (ho pins s σ H _ I h) fun v s1 ⟨x, H1, I1, r1, ty, q1⟩ => ?_)
  obtain ⟨h1, h2⟩ := tyV_is I1 r1 ty
  refine ⟨T, id, pa, slot, hty, h1, h2, ?_⟩
  have hA := ha cpos pins s1 σ H1 _ I1 q1
  rw [hs] at hA ⊢
  refine Calls.callWith_builtin (by show (false || (backTo cpos (starEach es X.env)).any (·.1)) = false; rw [hplain] <;> rfl) (Calls.evalArgs_plain ?_)
  exact thn hA fun us s2 ⟨vs, H2, I2, r2, q2⟩ => hm pins s2 σ H2 x vs v us Q I2 r1 r2 q2
/- xs.append(e), list.index on a module's tuple .. are MtR facts of 06m -/
end
end L2
namespace L2
open PySem PySem.Spec PyProof.Rows
def MtM (X : Cx) (id : String) (r : V → List V → Hp → VK → Prop) : Prop :=
  ∀ (pins : List (Addr × Obj)) (s : Shared) (σ : St) (H : Hp) (x : V) (xs : List V) (v : Value) (us : List Value) (Q : VK), Inv X pins σ H s → RelV x v → Vals xs us → r x xs H Q →
    wpAny (model X.prog X.w) X.A (call (.builtin id) (v :: us)) (EP X pins σ Q) X.xe s
theorem Vals.one : ∀ {x : V} {us : List Value}, Vals [x] us → ∃ u, us = [u] ∧ RelV x u
  | _, _, .cons r .nil => ⟨_, rfl, r⟩
theorem Vals.two : ∀ {x y : V} {us : List Value}, Vals [x, y] us → ∃ u v, us = [u, v] ∧ RelV x u ∧ RelV y v
  | _, _, _, .cons r (.cons q .nil) => ⟨_, _, rfl, r, q⟩
theorem Vals.zero : ∀ {us : List Value}, Vals [] us → us = []
  | _, .nil => rfl
theorem Vals.dropLast {xs : List V} {us : List Value} (h : Vals xs us) : Vals xs.dropLast us.dropLast := by
  induction h with
  | nil => exact .nil
  | cons r t ih =>
    cases t with
    | nil => exact .nil
    | cons q t' => exact .cons r ih
theorem Vals.eraseIdx : ∀ {xs : List V} {us : List Value} (i : Nat), Vals xs us → Vals (xs.eraseIdx i) (us.eraseIdx i)
  | _, _, _, .nil => .nil
  | _, _, 0, .cons _ t => t
  | _, _, i + 1, .cons r t => .cons r (Vals.eraseIdx i t)
theorem Vals.reverse {xs : List V} {us : List Value} (h : Vals xs us) : Vals xs.reverse us.reverse := by
  induction h with
  | nil => exact .nil
  | cons r t ih => rw [List.reverse_cons, List.reverse_cons]; exact Vals.append ih (.cons r .nil)
section
variable {X : Cx} {pins : List (Addr × Obj)} {σ : St} {H : Hp} {s : Shared} {l b : Addr} {xs ys zs : List V}
theorem Inv.lset {its its' : List Value} {n : Nat} {f : Array Value → Array Value} {t' : Nat} (I : Inv X pins σ H s) (hH : H l = some (.lst xs))
    (e : s.heap.get? l = some { cls := .type "list", data := .seq its.toArray n }) (hf : f its.toArray = its'.toArray) (hv : Vals ys its') (hz : ys.length ≤ sizeLine) :
    Inv X pins σ (upd H l (.lst ys)) { s with heap := s.heap.update l (Obj.mapSeq f), toks := t' } := by
  have q := PySem.IsL.update e f
  rw [hf] at q
  refine I.write (x := l) (e := l) (by rw [hH]; exact trivial) (.inl rfl) (fun b' u hb hu => (Heap.get?_update_other s.heap (Obj.mapSeq f) (Ne.symm hb)).trans hu) ⟨_, q⟩ ?_
  exact ⟨hz, its', _, hv, q⟩
theorem Inv.lnew {its : List Value} {t' : Nat} (I : Inv X pins σ H s) (hv : Vals ys its) (hz : ys.length ≤ sizeLine) :
    Inv X pins σ (upd H s.heap.objs.size (.lst ys)) { s with heap := s.heap.push { cls := .type "list", data := .seq its.toArray }, toks := t' } :=
  I.laid (fun _ _ q => Heap.get?_push_of_some _ q) (Nat.le_refl _) ⟨hz, its, 0, hv, Heap.get?_push_size _ rfl⟩
theorem Inv.fresh (I : Inv X pins σ H s) : H s.heap.objs.size = none := I.hok.fresh (Nat.le_refl _)
theorem Inv.lstM (I : Inv X pins σ H s) (hH : H l = some (.lst xs)) : xs.length ≤ sizeLine ∧ ∃ (its : List Value) (n : Nat), Vals xs its ∧ xs.length = its.length ∧ s.heap.get? l = some { cls := .type "list", data := .seq its.toArray n } := by
  obtain ⟨z, its, n, r, e⟩ := I.hok l _ hH
  exact ⟨z, its, n, r, r.length, e⟩
end
section
variable {X : Cx}
def rAppend : V → List V → Hp → VK → Prop := fun x vs H Q => ∃ l xs y, x = .ref l ∧ vs = [y] ∧ H l = some (.lst xs) ∧ xs.length < sizeLine ∧ Q .non (upd H l (.lst (xs ++ [y])))
theorem mt_append : MtM X "list.append" rAppend := by
  intro pins s σ H x vs v us Q I rx rv h
  obtain ⟨l, xs, y, rfl, rfl, hH, hz, q⟩ := h
  cases rx
  obtain ⟨u, rfl, ru⟩ := rv.one
  obtain ⟨z, its, n, r, hl, e⟩ := I.lstM hH
  refine call_meets F.slot_list_append ⟨_, e, rfl⟩ F.entry_list_append (F.args_list_append_2 _ _) (PySem.list_append l its.toArray n u (by rw [List.size_toArray]; omega)) ⟨e, ?_⟩
  refine ⟨.non, _, I.lset (its' := its ++ [u]) hH e (by simp) (r.append (.cons ru .nil)) ?_, rfl, q⟩
  rw [List.length_append, List.length_singleton]
  omega
def rCat : R2 := fun x y H Q => ∃ l b xs zs, x = .ref l ∧ y = .ref b ∧ H l = some (.lst xs) ∧ H b = some (.lst zs) ∧ xs.length + zs.length ≤ sizeLine ∧ ∀ p, H p = none → Q (.ref p) (upd H p (.lst (xs ++ zs)))
theorem op_cat : OpR X (binaryOp .Add) rCat := by
  intro pins s σ H x y v u Q I rx ry h
  obtain ⟨l, b, xs, zs, rfl, rfl, hH, hB, hz, q⟩ := h
  cases rx
  cases ry
  obtain ⟨z, its, n, r, hl, e⟩ := I.lstM hH
  obtain ⟨z2, its2, n2, r2, hl2, e2⟩ := I.lstM hB
  refine PySem.P.add_list e e2 ?_ (by rw [List.size_toArray, List.size_toArray]; omega)
  have ea : its.toArray ++ its2.toArray = (its ++ its2).toArray := by simp
  rw [ea]
  exact ⟨.ref _, _, I.lnew (t' := s.toks) (r.append r2) (by rw [List.length_append]; omega), rfl, q _ I.fresh⟩
end
section
variable {prog : Program} {w : World} {A : Around} {E : Value → Shared → Prop} {s : Shared}
end
section
variable {X : Cx}
end
end L2
namespace Att
open PySem PySem.W PySem.Calls PyProof.Rows
theorem ints_of_wellAll {P : Params} {h : Heap} : ∀ (ns : List Int) (vs : List Value), WellAll P h vs (ns.map WData.int) → IntsAre vs ns := by
  intro ns
  induction ns with
  | nil =>
    intro vs w
    rw [List.map_nil] at w
    cases w
    exact .nil
  | cons n ns ih =>
    intro vs w
    rw [List.map_cons] at w
    cases w with
    | cons a b =>
      cases a
      exact .cons _ _ (ih _ b)
theorem script_of {l : OpenLaw} {n : Nat} (hn : l.most = some n) {P : Params} {h : Heap} {args : List WData} {vals : List Value}
    (hpre : l.row.toRowW.claim.pre args = true) (hwl : WellAll P h vals args) :
    ∃ a vs ns, vals = [Value.ref a] ∧ args = [WData.list (ns.map WData.int)] ∧ h.get? a = some { cls := .type "list", data := .seq vs.toArray } ∧ IntsAre vs ns ∧ ns.length ≤ n := by
  have hsh : WShape.hasAll [] args [.list .int] = true := (pre_splitW hpre).1
  have hc : l.pre.holds [] { args := args } = true := (pre_splitW hpre).2
  obtain ⟨d, r, rfl, h1, h2⟩ := hasAllW_cons hsh
  obtain rfl := hasAllW_nil h2
  obtain ⟨xs, rfl, h3⟩ := hasW_list h1
  obtain ⟨ns, rfl⟩ := items_int h3
  have hlen : ns.length ≤ n := by
    unfold OpenLaw.pre at hc
    have h4 : (WTm.not (.lt (.lit (.int (n : Int))) (.len (.arg 0)))).holds [] { args := [.list (ns.map .int)] } = true := by
      have h4 := (holds_andW hc).1
      rw [hn] at h4
      exact h4
    have h5 := condW_of h4 (w_not (w_lt w_lit (w_len_list (w_arg rfl))))
    rw [List.length_map] at h5
    refine Nat.le_of_not_lt fun q => ?_
    have q' : (n : Int) < ((ns.length : Nat) : Int) := by omega
    first
      | (rw [decide_eq_true q'] at h5; exact absurd h5 (by decide))
      | (simp at h5; omega)
  cases hwl with
  | cons w1 w2 =>
    cases w2
    cases w1 with
    | list ho hall => exact ⟨_, _, ns, rfl, rfl, ho, ints_of_wellAll ns _ hall, hlen⟩
theorem post_true (l : OpenLaw) (args : List WData) : l.row.toRowW.claim.post args (.bool true) args = true :=
  postW_of (r := l.row.toRowW) (X := (true == true))
    (show WShape.has [] (.bool true) .bool = true by first | rfl | decide | simp [WShape.has, WShape.arms, WShape.armsAll])
    (show (WTm.eq .res (.lit (.bool true))).value [] { args := args, res := some (.bool true), after := args } = some (.bool (true == true)) from w_eq_bool (w_res rfl) w_lit) rfl
theorem attach_call {l : OpenLaw} {n : Nat} {q : Program} {loose : List Str} {XP : (Str → Option Value) → Heap → Prop} {YP : World → Heap → Prop} {d : DefRec}
    (hn : l.most = some n) (hdf : d.params.defaults = [])
    (call : ∀ (w : World) (s₀ s₁ : Shared) (mg mb : Str → Option Value) (fa : Addr) (o : Obj) (pm cd doc : Value) (a : Addr) (vs : List Value) (ns : List Int),
      Ground q loose [] XP w s₀ mg mb s₁.heap → YP w s₁.heap →
      s₁.heap.get? fa = some o → o.data = .func (docDef d.name d.params d.body d.scope pm cd doc) → s₁.heap.CodeRec cd d.name → mg d.name = some (.ref fa) →
      s₁.heap.get? a = some { cls := .type "list", data := .seq vs.toArray } → IntsAre vs ns → ns.length ≤ n → s₁.gens = #[] →
      codeAny (model l.prog w) callerA (.call (.ref fa) ⟨[.ref a], []⟩) (fun r s' => r = .ok (.ret (.bool true)) ∧ OldK s₁.heap s'.heap ∧ s'.os = s₁.os ∧ AllBare s'.gens) s₁) :
    WalkO q loose XP YP l.row.toRowW d [] (fun f vs => PySem.call f vs) := by
  intro w s₀ s₁ mg mb G Y fa o pm cd doc dV kV ho hd hcd hD hmg hg args vals as hpre hlay hrd hwl hlo
  obtain rfl : dV = .none := Dflts.none hD hdf
  obtain rfl : kV = .none := Dflts.noKw hD
  obtain ⟨a, vs, ns, rfl, rfl, hobj, hints, hlen⟩ := script_of hn hpre hwl
  refine enter_call (codeAny_mono (call w s₀ s₁ mg mb fa o pm cd doc a vs ns G Y ho (fd_plain hd) hcd hmg hobj hints hlen hg) fun r s' hq => ?_)
  obtain ⟨rfl, h2, h3, h4⟩ := hq
  exact ⟨.inl ⟨.bool true, .bool true, [], rfl, fun _ => rfl, .bool true, post_true l _, fun _ => ⟨List.Pairwise.nil, fun _ hm => (nomatch hm)⟩⟩, h2, h3, h4⟩
section
variable {prog : Program} {w : World} {A : Around} {E : Value → Shared → Prop} {s : Shared} {K : Frag}
def ledger (h : Heap) (L d : Addr) : List (Addr × Obj) := (List.range h.objs.size).filterMap fun a => if a = L ∨ a = d then none else (h.get? a).map fun o => (a, o)
end
end Att
namespace L2
open PySem PySem.Spec PyProof.Rows
theorem vals_ints : ∀ {vs : List Value} {ns : List Int}, IntsAre vs ns → Vals (ns.map V.int) vs
  | _, _, .nil => .nil
  | _, _, .cons n t h => .cons ⟨t, rfl⟩ (vals_ints h)
def Only (H : Hp) : Prop := ∀ b, H b = none ∨ ∃ o xs, H b = some (.frz o (.lst xs))
theorem law_call {P : Program} {w : World} {K : PySem.W.Frag} {mg mb : Str → Option Value} {CX : CXT} {k : Nat} {fa a : Addr} {fd : FuncData} {x : Str} {sp : Sp} {s₁ : Shared} {vs : List Value} {ns : List Int}
    (KX : K.In s₁.heap) (hns : s₁.heap.Ns mainGlobals mg) (hb : s₁.heap.Ns builtinsNs mb) (hbb : ∀ x : Str, x ≠ "__name__" → mb x = bootBuiltins x) (hlim : s₁.heap.NoLimit) (hg : s₁.gens = #[])
    (ha : s₁.heap.get? a = some { cls := .type "list", data := .seq vs.toArray }) (hi : IntsAre vs ns) (hl : ns.length ≤ sizeLine) (hr : Room k callerA)
    (F : ∀ base : Heap, K.In base → base.Ns mainGlobals mg → FnOk P w K mg base CX k fa fd [x] sp) (hbind : ∀ (s : Shared) (u : Value), BindsTo s fd ⟨[u], []⟩ [(x, u)])
    (hsp : ∀ H : Hp, Only H → SqL K H a (ns.map V.int) → sp [.ref a] H (fun v _ => v = .bl true) fun _ _ _ => False)
    (hCX : ∀ H e s', CX [] H s₁ (fun _ _ _ => False) e s' → False) :
    codeAny (model P w) callerA (.call (.ref fa) ⟨[.ref a], []⟩) (fun r s' => r = .ok (.ret (.bool true)) ∧ OldK s₁.heap s'.heap ∧ s'.os = s₁.os ∧ AllBare s'.gens) s₁ := by
  have rv := vals_ints hi
  have lenV := hi.length
  -- from an abstract heap in which nothing but the script may be tracked
  have core : ∀ H : Hp, Only H → SqL K H a (ns.map V.int) → HOk P w H s₁.heap → (∀ b, H b ≠ none → b = a) → (H a ≠ none → K.lookup a = none) →
      codeAny (model P w) callerA (.call (.ref fa) ⟨[.ref a], []⟩) (fun r s' => r = .ok (.ret (.bool true)) ∧ OldK s₁.heap s'.heap ∧ s'.os = s₁.os ∧ AllBare s'.gens) s₁ := by
    intro H hO hS hok hA hK
    have base_of : ∀ {b : Addr} {o : Obj}, s₁.heap.get? b = some o → H b = none → (hidT s₁.heap H).get? b = some o := fun e n => hidT_get e n
    have noA : ∀ {b : Addr} {o : Obj} {es : Array DictEntry} {ep : Nat}, s₁.heap.get? b = some o → o.data = .dict es ep → H b = none := fun {b o es ep} e d => by
      cases q : H b with
      | none => rfl
      | some u =>
        have e' : b = a := hA b (by rw [q]; simp)
        subst e'
        rw [ha] at e; cases e
        have d' : Data.seq vs.toArray _ = Data.dict es ep := d
        cases d'
    have nsK : ∀ {b : Addr} {m : Str → Option Value}, s₁.heap.Ns b m → (hidT s₁.heap H).Ns b m := fun {b m} ⟨o, es, ep, e, d, r⟩ => ⟨o, es, ep, base_of e (noA e d), d, r⟩
    have hKb : K.In (hidT s₁.heap H) := fun b o e => base_of (KX b o e) (by
      cases q : H b with
      | none => rfl
      | some u =>
        have e' : b = a := hA b (by rw [q]; simp)
        subst e'
        rw [hK (by rw [q]; simp)] at e; cases e)
    have hM : Mod K mg (hidT s₁.heap H) := ⟨hKb, nsK hns, ⟨mb, nsK hb, hbb⟩, let ⟨mc, h1, h2⟩ := hlim; ⟨mc, nsK h1, h2⟩⟩
    have e0 : Env0 P w K mg (hidT s₁.heap H) callerA [] s₁ H := ⟨rfl, hM, fun b o e => of_hidT e, Nat.le_of_eq (hidT_size _ _), trivial, fun b hb => absurd (show b ∈ ([] : List Addr) from hb) (by simp), hok, .of_eq hg⟩
    refine codeAny_mono ((F _ hKb (nsK hns)).run callerA [] s₁ H ⟨[.ref a], []⟩ [.ref a] [.ref a] _ _ hr e0 (hbind s₁ (.ref a)) (.cons rfl .nil) (hsp H hO hS)) fun r s' h => ?_
    cases r with
    | error e => exact (hCX H e s' h).elim
    | ok fl =>
      cases fl with
      | next => exact False.elim h
      | brk => exact False.elim h
      | cont => exact False.elim h
      | ret u =>
        obtain ⟨v, H', os, bare, un, hok', r', q⟩ := h
        have q' : v = .bl true := q
        subst q'
        obtain rfl : u = Value.bool true := r'
        refine ⟨rfl, OldK.of_keep fun b o e => ?_, os, bare⟩
        cases q : H b with
        | none => exact un.keep b o e q (by intro z; exact absurd (show b ∈ ([] : List Addr) from z) (by simp)) (by simp)
        | some u =>
          rcases hO b with z | ⟨ob, xs, z⟩
          · rw [q] at z; cases z
          · have z2 := un.frzs b ob _ z
            obtain ⟨e1, _⟩ := hok b _ z
            obtain ⟨e2, _⟩ := hok' b _ z2
            rw [e] at e1; cases e1
            exact e2
  cases hk : K.lookup a with
  | some o =>
    -- the script is one of the module's own objects
    have e := KX a o hk
    rw [ha] at e
    cases e
    refine core (fun _ => none) (fun _ => .inl rfl) (.inr ⟨_, vs.toArray, _, hk, rfl, rfl, rfl, by rw [List.size_toArray, lenV]; exact hl, by simpa using rv⟩) (fun b u z => by have z' : (none : Option HO) = some u := z; cases z') (fun b z => absurd rfl z) fun z => absurd rfl z
  | none =>
    refine core (fun b => if b = a then some (.frz { cls := .type "list", data := .seq vs.toArray } (.lst (ns.map V.int))) else none) (fun b => ?_) (.inl (.inr ⟨{ cls := .type "list", data := .seq vs.toArray }, if_pos rfl⟩)) (fun b u z => ?_) (fun b z => ?_) fun _ => hk
    · by_cases hb : b = a
      · exact .inr ⟨_, _, if_pos hb⟩
      · exact .inl (if_neg hb)
    · by_cases hb : b = a
      · have z' := (if_pos hb).symm.trans z
        cases z'
        subst hb
        exact ⟨ha, by rw [List.length_map]; exact hl, vs, _, rv, ha⟩
      · have z' := (if_neg hb).symm.trans z
        cases z'
    · by_cases hb : b = a
      · exact hb
      · exact absurd (if_neg hb) z
end L2
namespace L2
open PySem PySem.Spec PyProof.Rows
abbrev KOf {K : PySem.W.Frag} {h : Heap} (_ : K.In h) : PySem.W.Frag := K
theorem walk_of {l : PySem.W.OpenLaw} {n k : Nat} {q : Program} {loose : List Str} {XP : (Str → Option Value) → Heap → Prop} {YP : World → Heap → Prop} {d : DefRec} {K : Params → PySem.W.Frag} {CX : World → CXT} {sp : World → Sp} {x : Str}
    (hn : l.most = some n) (hn2 : n ≤ sizeLine) (hdf : d.params.defaults = []) (hr : Room k callerA)
    (hY : ∀ (w : World) (h : Heap), YP w h → (K w.params).In h)
    (F : ∀ (w : World) (mg : Str → Option Value) (fa : Addr) (h : Heap), (K w.params).In h → h.Ns mainGlobals mg → mg d.name = some (.ref fa) →
      ∃ fd : FuncData, (∀ (s : Shared) (u : Value), BindsTo s fd ⟨[u], []⟩ [(x, u)]) ∧
        ∀ base : Heap, (K w.params).In base → base.Ns mainGlobals mg → FnOk l.prog w (K w.params) mg base (CX w) k fa fd [x] (sp w))
    (hsp : ∀ (w : World) (H : Hp) (a : Addr) (ns : List Int), ns.length ≤ n → Only H → SqL (K w.params) H a (ns.map V.int) → sp w [.ref a] H (fun v _ => v = .bl true) fun _ _ _ => False)
    (hCX : ∀ (w : World) (H : Hp) (s : Shared) (e : Value) (s' : Shared), CX w [] H s (fun _ _ _ => False) e s' → False) :
    PySem.W.WalkO q loose XP YP l.row.toRowW d [] (fun f vs => PySem.call f vs) := by
  refine Att.attach_call hn hdf fun w s₀ s₁ mg mb fa o pm cd doc a vs ns G Y ho hd hcd hmg hobj hints hlen hg => ?_
  have KX := hY w _ Y
  obtain ⟨fd, hb, hF⟩ := F w mg fa _ KX G.T.g hmg
  exact law_call KX G.T.g G.T.b G.T.builtins G.T.nolimit hg hobj hints (Nat.le_trans hlen hn2) hr hF hb (fun H hO hS => hsp w H a ns hlen hO hS) fun H e s' => hCX w H s₁ e s'
end L2
/- THE LAST THEOREM (shape; LID, My.* are yours):
   My.Adr: a structure of the addresses that your layer names (classes, functions); My.Txt K t: a structure (Prop) of the equations over K;
   My.txt_mk : {K} {implicit addresses ..} (e1 : nsIn K mainGlobals "law" = some (some (.ref f))) (e2 : K.lookup f = some ⟨oc, od, .func (fnOf "law" "law" params body scope dV kV doc pm an cdv ct), sl⟩) (e3 : codeIn K cdv "law" = true) .. : ∃ t, My.Txt K t
set_option maxRecDepth 100000 in
set_option maxHeartbeats 0 in
theorem PySem.Challenge.cw_LID_holds : PySem.Challenge.rw_LID.Holds := by
  w_on; o_law; k_head; (case hw => w_witness2)
  k_fill
  refine L2.walk_of (l := PySem.Challenge.rw_LID) (n := 63) (k := 40) (x := "script") (CX := fun w => ..) (sp := fun _ => My.sp_law) rfl (by decide) rfl ⟨rfl, by decide, by decide⟩ (fun w h Y => PySem.W.kIn_of Y) ?F ?S ?C
  case F =>
    intro w mg fa h KX G hmg
    have T : ∃ t, My.Txt (L2.KOf KX) t := by
      dsimp only [L2.KOf]                          -- K must stand as «<heap const> w.params» for k_is
      refine' My.txt_mk ?e1 ?e2 ?e3 ..
      (case e1 => PySem.W.k_is)                    -- in the order: a name -> its address -> its object -> its parts
      (case e2 => PySem.W.k_is)
      ..
    obtain ⟨t, T⟩ := T
    have e0 := hmg.symm.trans (PySem.W.mg_of KX G T.law)
    cases e0                                       -- fa is the law's own address
    exact ⟨_, fun s u => .of_eq rfl, fun base kb nb => My.law_fn T kb nb⟩     -- if «.of_eq rfl» comes too early: refine' ⟨_, ?b, fun base kb nb => My.law_fn T kb nb⟩; exact fun s u => .of_eq rfl
  case S => exact fun w H a ns hl hO hS => ..
  case C => exact ..
(the tactic k_is has no namespace: write k_is) -/
namespace L2
open PySem PySem.Spec PyProof.Rows
def defArgs (s : Stmt) : Arguments := match s with
  | .FunctionDef _ a _ _ _ _ _ _ _ _ => a
  | _ => { posonlyargs := [], args := [], vararg := none, kwonlyargs := [], kw_defaults := [], kwarg := none, defaults := [] }
def defBody (s : Stmt) : List Stmt := match s with
  | .FunctionDef _ _ b _ _ _ _ _ _ _ => b
  | _ => []
def defScope (s : Stmt) : Scope := match s with
  | .FunctionDef _ _ _ _ _ _ sc _ _ _ => sc
  | _ => { kind := .function, names := [], isGenerator := false, isCoroutine := false }
abbrev CX0 : CXT := fun _ _ _ _ _ _ => False
abbrev E0 : XK := fun _ _ _ => False
theorem pass0 {X : Cx} : Passes CX0 X E0 := fun _ _ _ _ _ _ _ h => h.elim
structure Fun (K : PySem.W.Frag) (x qual : Str) (st : Stmt) (f : Addr) (fd : FuncData) : Prop where
  ex : ∃ (oc : Value) (od : Option Addr) (kV doc pm : Value) (an : Option Addr) (cdv ct : Value) (osl : Array (Option Value)),
    fd = PySem.W.fnOf x qual (defArgs st) (defBody st) (defScope st) .none kV doc pm an cdv ct ∧ K.lookup f = some ⟨oc, od, .func fd, osl⟩ ∧ PySem.W.codeIn K cdv qual = true
  kp : PySem.W.keepIn K (.ref f) = true
section
variable {P : Program} {w : World} {K : PySem.W.Frag} {mg : Str → Option Value} {base : Heap}
theorem Fun.ok {x qual : Str} {st : Stmt} {f : Addr} {fd : FuncData} {N ps : List Str} {k : Nat} {sp : Sp} (F : Fun K x qual st f fd) (S : FnScope N ps (defScope st)) (len : ∀ vs H Q E, sp vs H Q E → vs.length = ps.length)
    (hbody : ∀ (cdv : Value) (A : Around) (outer : List Env) (s : Shared) (H : Hp) (vs : List V) (Q : VK) (E : XK), Room k (A.deeper (envOfC qual (defScope st) s.heap.objs.size f cdv)) → sp vs H Q E →
      ∃ t, PSs (cxOf CX0 P w K mg base N qual (defScope st) f cdv A outer s H E).nox (defBody st) t ∧ t { nx := fun _ H' => Q .non H', rt := Q } (start N vs) H) : FnOk P w K mg base CX0 (k + 1) f fd ps sp := by
  obtain ⟨oc, od, kV, doc, pm, an, cdv, ct, osl, rfl, lk, hcd⟩ := F.ex
  refine fn_of lk hcd S len fun A outer s H vs Q E hr hsp => ?_
  obtain ⟨t, h, q⟩ := hbody cdv A outer s H vs Q E hr hsp
  exact ⟨t, h.nox, q⟩
theorem Fun.binds {x qual : Str} {st : Stmt} {f : Addr} {fd : FuncData} {ps : List Str} (F : Fun K x qual st f fd)
    (h : ∀ (kV doc pm : Value) (an : Option Addr) (cdv ct : Value) (us : List Value), us.length = ps.length → bindArgs (PySem.W.fnOf x qual (defArgs st) (defBody st) (defScope st) .none kV doc pm an cdv ct) ⟨us, []⟩ = pure (ps.zip us)) : Binds K fd ps [] := by
  obtain ⟨oc, od, kV, doc, pm, an, cdv, ct, osl, rfl, lk, hcd⟩ := F.ex
  exact .all (h kV doc pm an cdv ct)
theorem fun_mk {x qual : Str} {st : Stmt} {f : Addr} {oc : Value} {od an : Option Addr} {osl : Array (Option Value)} {kV doc pm cdv ct : Value} (l : K.lookup f = some ⟨oc, od, .func (PySem.W.fnOf x qual (defArgs st) (defBody st) (defScope st) .none kV doc pm an cdv ct), osl⟩)
    (c : PySem.W.codeIn K cdv qual = true) (k : PySem.W.keepIn K (.ref f) = true) : Fun K x qual st f (PySem.W.fnOf x qual (defArgs st) (defBody st) (defScope st) .none kV doc pm an cdv ct) := ⟨⟨oc, od, kV, doc, pm, an, cdv, ct, osl, rfl, l, c⟩, k⟩
end
section
variable {X : Cx}
end
def Same (H H' : Hp) : Prop := ∀ b o, H b = some o → H' b = some o
theorem Same.refl (H : Hp) : Same H H := fun _ _ h => h
theorem Same.trans {H H1 H2 : Hp} (a : Same H H1) (b : Same H1 H2) : Same H H2 := fun c o h => b c o (a c o h)
theorem Same.free {H H' : Hp} (e : Same H H') {l : Addr} (h : H' l = Option.none) : H l = Option.none := by
  cases q : H l with
  | none => rfl
  | some o =>
    rw [e l o q] at h
    cases h
theorem Same.seq {K : PySem.W.Frag} {H H' : Hp} {a : Addr} {xs : List V} (e : Same H H') (h : SqL K H a xs) : SqL K H' a xs := by
  rcases h with (h | ⟨o, h⟩) | h
  · exact .inl (.inl (e _ _ h))
  · exact .inl (.inr ⟨o, e _ _ h⟩)
  · exact .inr h
end L2
set_option Elab.async false
set_option linter.all false
set_option maxRecDepth 100000
namespace L2
open PySem PySem.Spec PyProof.Rows
theorem compLoop_any {prog : Program} {w : World} {A : Around} {R : Result → Shared → Prop} {s : Shared} {elt target iter : Expr} {ifs : List Expr} {scope : Scope} {pos : Pos} {it acc : Value} {env : Env} (I : Nat → Shared → Prop)
    (turn : ∀ n s, I n s → wpAny (model prog w) A (pyNext it) (fun r s₁ => match r with
      | none => R (.ok .next) s₁
      | some v => wpAny (model prog w) A (letOwnedTupleGo target it v) (fun _ s₁' => wpAny (model prog w) A (assign target env v) (fun _ s₂ =>
          wpAny (model prog w) A (forIn ifs true fun c r => if r = true then do let ok ← isTrue c env (eval c env); pure (ForInStep.yield ok) else pure (ForInStep.yield r)) (fun ok s₃ =>
            if ok = true then wpAny (model prog w) A (eval elt env) (fun x s₄ =>
              wpAny (model prog w) A (call (.builtin "list.append") [acc, x]) (fun _ s₅ => ∃ m, m < n ∧ I m s₅) (fun _ _ => False) s₄) (fun _ _ => False) s₃
            else ∃ m, m < n ∧ I m s₃) (fun _ _ => False) s₂) (fun _ _ => False) s₁') (fun _ _ => False) s₁) (fun _ _ => False) s)
    (n : Nat) (h : I n s) :
    codeAny (model prog w) A (.compLoop (.ListComp elt [⟨target, iter, ifs, 0⟩] scope pos) 0 it acc env) R s := by
  refine codeAny_loop rfl I (fun n s hI => ?_) n h
  show wpAny _ A ((compTurn (.ListComp elt [⟨target, iter, ifs, 0⟩] scope pos) 0 it acc env).onRaise (fun x => do noteFrame x env; theTreesLotGoes x)) _ _ s
  refine wpAny_noted ?_
  rw [compTurn_list]
  refine wpAny_bind (wpAny_standAt (wpAny_bind (wpAny_mono (turn n s hI) (fun r s₁ h₁ => ?_) fun _ _ h' => h'.elim)))
  cases r with
  | none => exact wpAny_pure h₁
  | some v =>
    refine wpAny_bind (wpAny_mono h₁ (fun _ s₁' h₁' => ?_) fun _ _ h' => h'.elim)
    refine wpAny_bind (wpAny_mono h₁' (fun _ s₂ h₂ => wpAny_bind (wpAny_mono h₂ (fun ok s₃ h₃ => ?_) fun _ _ h' => h'.elim)) fun _ _ h' => h'.elim)
    cases ok with
    | false => exact wpAny_pure ⟨rfl, h₃⟩
    | true =>
      exact wpAny_bind (wpAny_bind (wpAny_mono h₃ (fun x s₄ h₄ => wpAny_bind (wpAny_mono h₄ (fun _ s₅ h₅ => wpAny_pure (wpAny_pure ⟨rfl, h₅⟩)) fun _ _ h' => h'.elim)) fun _ _ h' => h'.elim))
def PTs (X : Cx) (ifs : List Expr) (t : TT) : Prop :=
  ∀ (pins : List (Addr × Obj)) (s : Shared) (σ : St) (H : Hp) (Q : Bool → Hp → Prop), Inv X pins σ H s → t σ H Q →
    wpAny (model X.prog X.w) X.A (forIn ifs true fun c r => if r = true then do let ok ← isTrue c X.env (eval c X.env); pure (ForInStep.yield ok) else pure (ForInStep.yield r)) (TP X pins σ Q) X.xe s
def tYes : TT := fun _ H Q => Q true H
theorem pts_nil {X : Cx} : PTs X [] tYes := fun _ _ _ H _ I h => wpAny_tests_nil ⟨H, I, h⟩
theorem pts_one {X : Cx} {c : Expr} {t : TT} (h : PT X c t) : PTs X [c] t := fun pins s σ H Q I hw => wpAny_tests_one (h pins s σ H Q I hw)
theorem closure_ex {env : Env} : ∀ (names : List (Str × NameKind)) (acc : List (Str × Addr)), (∀ y ∈ names, y.2 = .free → ∃ c, env.cells.lookup y.1 = some c) → (∀ y ∈ acc, env.cells.lookup y.1 = some y.2) →
    ∃ cl : List (Str × Addr), (forIn (m := Sem) names acc fun (x : Str × NameKind) cs => if (x.2 == NameKind.free) = true then (do let a ← cellOf env x.1; pure (ForInStep.yield ((x.1, a) :: cs))) else pure (ForInStep.yield cs)) = pure cl ∧
      (∀ y ∈ cl, env.cells.lookup y.1 = some y.2) ∧ (∀ y ∈ acc, y ∈ cl) ∧ ∀ y ∈ names, y.2 = .free → ∃ c, (y.1, c) ∈ cl
  | [], acc, _, ha => ⟨acc, rfl, ha, fun _ h => h, fun _ h => nomatch h⟩
  | (n, k) :: r, acc, hf, ha => by
    by_cases hk : k = .free
    · subst hk
      obtain ⟨c, hc⟩ := hf (n, .free) List.mem_cons_self rfl
      obtain ⟨cl, e, h1, h2, h3⟩ := closure_ex r ((n, c) :: acc) (fun y hy => hf y (List.mem_cons_of_mem _ hy)) (fun y hy => by
        rcases List.mem_cons.mp hy with rfl | hy
        · exact hc
        · exact ha y hy)
      refine ⟨cl, ?_, h1, fun y hy => h2 y (List.mem_cons_of_mem _ hy), fun y hy hk => ?_⟩
      · rw [List.forIn_cons]
        have e1 : cellOf env n = pure c := by unfold cellOf; rw [hc]
        simp only [beq_self_eq_true, if_true, e1]
        exact e
      · rcases List.mem_cons.mp hy with rfl | hy
        · exact ⟨c, h2 _ List.mem_cons_self⟩
        · exact h3 y hy hk
    · have hb : (k == NameKind.free) = false := by simpa using hk
      obtain ⟨cl, e, h1, h2, h3⟩ := closure_ex r acc (fun y hy => hf y (List.mem_cons_of_mem _ hy)) ha
      refine ⟨cl, ?_, h1, h2, fun y hy hk' => ?_⟩
      · rw [List.forIn_cons]
        simp only [hb, Bool.false_eq_true, if_false]
        exact e
      · rcases List.mem_cons.mp hy with rfl | hy
        · exact absurd hk' hk
        · exact h3 y hy hk'
theorem closureFor_ex {env : Env} {scope : Scope} (hf : ∀ y ∈ scope.names, y.2 = .free → ∃ c, env.cells.lookup y.1 = some c) :
    ∃ cl : List (Str × Addr), closureFor scope env = pure cl ∧ (∀ y ∈ cl, env.cells.lookup y.1 = some y.2) ∧ ∀ y ∈ scope.names, y.2 = .free → ∃ c, (y.1, c) ∈ cl := by
  obtain ⟨cl, e, h1, _, h3⟩ := closure_ex scope.names [] hf (fun _ h => nomatch h)
  refine ⟨cl, ?_, h1, h3⟩
  unfold closureFor
  simp only [bind_pure]
  exact e
end L2
set_option Elab.async false
set_option linter.all false
set_option maxRecDepth 100000
namespace L2
open PySem PySem.Spec PyProof.Rows
abbrev cxComp (X : Cx) (scope : Scope) (cl : List (Str × Addr)) (C : Addr) (N : List Str) (s₀ : Shared) (H₀ : Hp) (ex : List Addr) : Cx where
  prog := X.prog
  w := X.w
  K := X.K
  mg := X.mg
  base := X.base
  A := X.A
  N := N
  s₀ := s₀
  H₀ := H₀
  env := compEnvC scope cl C X.env
  outer := X.stack
  stack := X.stack
  ex := ex
  fn := fun _ => false
  calm := X.calm
  pn := []
  xe := fun _ _ => False
theorem lookup_mem {α β : Type} [BEq α] [LawfulBEq α] {l : List (α × β)} {x : α} {y : β} (h : l.lookup x = some y) : (x, y) ∈ l := by
  induction l with
  | nil => cases h
  | cons p r ih =>
    obtain ⟨a, b⟩ := p
    rw [List.lookup_cons] at h
    cases e : (x == a) with
    | true => rw [e] at h; cases h; rw [eq_of_beq e]; exact List.mem_cons_self
    | false => rw [e] at h; exact List.mem_cons_of_mem _ (ih h)
theorem mem_lookup {α β : Type} [BEq α] [LawfulBEq α] {l : List (α × β)} {x : α} {y : β} (h : (x, y) ∈ l) : ∃ z, l.lookup x = some z := by
  induction l with
  | nil => cases h
  | cons p r ih =>
    obtain ⟨a, b⟩ := p
    rw [List.lookup_cons]
    cases e : (x == a) with
    | true => exact ⟨_, rfl⟩
    | false =>
      rcases List.mem_cons.mp h with q | q
      · cases q; simp at e
      · exact ih q
theorem relabel_mem {scope : Scope} {env : Env} {y : Str} {k : NameKind} (h : (y, k) ∈ (relabel scope env).names) : (y, k) ∈ scope.names ∨ (k = .cell ∧ (y, NameKind.free) ∈ scope.names) := by
  unfold relabel at h
  obtain ⟨⟨n, k'⟩, hm, e⟩ := List.mem_map.mp h
  dsimp only at e
  split at e
  · rename_i hc
    cases e
    have : k' = .free := by
      have := hc
      simp only [Bool.and_eq_true, beq_iff_eq] at this
      exact this.1.1
    subst this
    exact .inr ⟨rfl, hm⟩
  · cases e; exact .inl hm
theorem lookup_relabel_free {env : Env} : ∀ {names : List (Str × NameKind)} {x : Str}, names.lookup x = some .free →
    (names.map fun (n, k) => if (k == NameKind.free && env.scope.kind == .function && env.kindOf n == some .cell) then (n, NameKind.cell) else (n, k)).lookup x = some .cell ∨
    (names.map fun (n, k) => if (k == NameKind.free && env.scope.kind == .function && env.kindOf n == some .cell) then (n, NameKind.cell) else (n, k)).lookup x = some .free
  | [], _, h => by simp at h
  | (n, k) :: r, x, h => by
    have ih := @lookup_relabel_free env r x
    show List.lookup x ((if (k == NameKind.free && env.scope.kind == .function && env.kindOf n == some .cell) = true then (n, NameKind.cell) else (n, k)) :: _) = _ ∨ List.lookup x ((if (k == NameKind.free && env.scope.kind == .function && env.kindOf n == some .cell) = true then (n, NameKind.cell) else (n, k)) :: _) = _
    cases hx : x == n with
    | true =>
      simp only [List.lookup_cons, hx] at h
      cases h
      by_cases hc : (NameKind.free == NameKind.free && env.scope.kind == .function && env.kindOf n == some .cell) = true
      · rw [if_pos hc]; simp [List.lookup_cons, hx]
      · rw [if_neg hc]; simp [List.lookup_cons, hx]
    | false =>
      simp only [List.lookup_cons, hx] at h
      by_cases hc : (k == NameKind.free && env.scope.kind == .function && env.kindOf n == some .cell) = true
      · rw [if_pos hc]; simp only [List.lookup_cons, hx]; exact ih h
      · rw [if_neg hc]; simp only [List.lookup_cons, hx]; exact ih h
def compSt (fs : List Nat) (σ : St) : St := fs.map fun j => (σ[j]?).join
def tComp (wi : TI) (fs : List Nat) (tt : TT) (te : TE) : TE := fun σ H Q => wi σ H fun J H1 => ∃ W : Nat → Nat → List V → Hp → Prop, (∃ m, W 0 m [] H1) ∧ ∀ i m ys H, W i m ys H → ys.length ≤ sizeLine ∧
  ((J.stop i H ∧ ∀ p, H p = none → Q (.ref p) (upd H p (.lst ys))) ∨
   (J.go i H ∧ ys.length < sizeLine ∧ ∀ x H', J.yld i H x H' → tt (some x :: compSt fs σ) H' fun b H2 => if b = true then te (some x :: compSt fs σ) H2 fun y H3 => ∃ m', m' < m ∧ W (i + 1) m' (ys ++ [y]) H3 else ∃ m', m' < m ∧ W (i + 1) m' ys H2))
section
variable {X : Cx}
theorem comp_block {elt iter : Expr} {x : Str} {px pos : Pos} {ifs : List Expr} {scope : Scope} {fs : List (Str × Nat)} {tt : TT} {te : TE}
    {pins : List (Addr × Obj)} {σ : St} {H2 : Hp} {s2 : Shared} {it : Addr} {fp : List Addr} {tn : Nat → Heap → Prop} {J : It} {cl : List (Str × Addr)} {E : Value → Shared → Prop}
    {P : Value → Addr → Result → Shared → Prop}
    (hc : X.calm = true) (hkind : scope.kind = .function) (hcell : ∀ y ∈ scope.names, y.2 ≠ .cell) (hx : scope.names.lookup x = some .local)
    (hnd : (x :: fs.map (·.1)).Nodup) (hfs : ∀ f ∈ fs, X.N[f.2]? = some f.1 ∧ (X.env.kindOf f.1 = some .cell ∨ X.env.kindOf f.1 = some .free) ∧ scope.names.lookup f.1 = some .free)
    (hb : ∀ (cl : List (Str × Addr)) (C : Addr) (s₀ : Shared) (H₀ : Hp) (ex : List Addr), PTs (cxComp X scope cl C (x :: fs.map (·.1)) s₀ H₀ ex) ifs tt ∧ PE (cxComp X scope cl C (x :: fs.map (·.1)) s₀ H₀ ex) elt te)
    (hcl1 : ∀ y ∈ cl, X.env.cells.lookup y.1 = some y.2) (hcl2 : ∀ y ∈ scope.names, y.2 = .free → ∃ c, (y.1, c) ∈ cl)
    (I2 : Inv X pins σ H2 s2) (T : Turn X.prog X.w X.K (.Name x px) J fp it tn) (st2 : tn 0 s2.heap) (f2 : ∀ b ∈ fp, FpOk X pins H2 b)
    (W : Nat → Nat → List V → Hp → Prop) (Qe : Hp → List V → Prop) (w0 : ∃ m, W 0 m [] H2)
    (turn : ∀ i m ys H, W i m ys H → ys.length ≤ sizeLine ∧
      ((J.stop i H ∧ Qe H ys) ∨
       (J.go i H ∧ ys.length < sizeLine ∧ ∀ x H', J.yld i H x H' → tt (some x :: compSt (fs.map (·.2)) σ) H' fun b H2 => if b = true then te (some x :: compSt (fs.map (·.2)) σ) H2 fun y H3 => ∃ m', m' < m ∧ W (i + 1) m' (ys ++ [y]) H3 else ∃ m', m' < m ∧ W (i + 1) m' ys H2)))
    (hP : ∀ (D C : Addr) (H' : Hp) (s' : Shared) (ys : List V) (its : List Value) (m : Str → Option Value), s2.heap.objs.size ≤ C → s2.heap.get? D = none → s2.heap.get? C = none → D ≠ C → H' D = none → H' C = none → s'.heap.Ns C m → s'.heap.PlainList D its.toArray → Vals ys its → ys.length ≤ sizeLine → Qe H' ys →
      Un (frs X.stack) fp H2 H' s2.heap s'.heap → HOk X.prog X.w H' s'.heap → AllBare s'.gens → s'.os = s2.os → P (.ref D) C (.ok .next) s') :
    wpAny (model X.prog X.w) X.A (newList []) (fun acc s₃ => wpAny (model X.prog X.w) X.A (newFunctionEnv scope X.env.globals cl [] X.env.qual none .none (some X.env)) (fun cenv s₄ =>
      codeAny (model X.prog X.w) X.A (.compStart (.ListComp elt [⟨.Name x px, iter, ifs, 0⟩] scope pos) 0 (.ref it) acc { cenv with scope := relabel scope X.env }) (P acc cenv.locals) s₄) E s₃) E s2 := by
  refine wpAny_newObj_type (wpAny_newFunctionEnv hcell (by intro y hy; simp at hy) (fun h₁ hns₁ hsb₁ => ?_) hkind)
  dsimp only at hns₁ hsb₁ ⊢
  generalize hH2 : s2.heap.push { cls := .type "list", dict := none, data := .seq ([] : List Value).toArray } = HH at hns₁ hsb₁ ⊢
  have hC : HH.objs.size = s2.heap.objs.size + 1 := by rw [← hH2, Heap.size_push]
  generalize eD : s2.heap.objs.size = D at *
  generalize eC : HH.objs.size = C at *
  have hDC : D ≠ C := by rw [hC]; exact Nat.ne_of_lt (Nat.lt_succ_self _)
  have fresh : ∀ a, D ≤ a → s2.heap.get? a = none := fun a ha => Heap.get?_none_of_le (by rw [eD]; exact ha)
  have hD0 : s2.heap.get? D = none := fresh D (Nat.le_refl _)
  have hC0 : s2.heap.get? C = none := fresh C (by rw [hC]; exact Nat.le_succ _)
  have old : ∀ b o, s2.heap.get? b = some o → h₁.get? b = some o := fun b o e => hsb₁.extBut b o (fun z => by rw [z, hC0] at e; cases e) (Heap.get?_push_of_some _ (hH2 ▸ Heap.get?_push_of_some _ e))
  have hacc : h₁.PlainList D #[] := ⟨0, hsb₁.extBut _ _ hDC (Heap.get?_push_of_some _ (hH2 ▸ (eD ▸ Heap.get?_push_size _ rfl)))⟩
  have HD : H2 D = none := I2.hok.fresh (by rw [eD]; exact Nat.le_refl _)
  have HC : H2 C = none := I2.hok.fresh (by rw [eD, hC]; exact Nat.le_succ _)
  -- the block's context
  let Y : Cx := cxComp X scope cl C (x :: fs.map (·.1)) s2 H2 fp
  have lk : ∀ y c, cl.lookup y = some c → X.env.cells.lookup y = some c := fun y c e => hcl1 (y, c) (lookup_mem e)
  have yok : Y.Ok := by
    refine ⟨I2.ok.mod, hkind, I2.ok.glob, I2.ok.blt, ?_, fun y z c h1 h2 => I2.ok.inj y z c (lk y c h1) (lk z c h2), fun y hy => ?_, fun _ _ h _ => absurd h Bool.false_ne_true, I2.ok.hd, I2.ok.frames, .inl rfl, fun b hb => ?_, I2.bs, ?_, fun b o e hb => ?_, fun b hb hz => ?_, I2.stack, I2.stkFree⟩
    · show s2.heap.objs.size ≤ C
      rw [eD, hC]; exact Nat.le_succ _
    · have hy' : (relabel scope X.env).names.lookup y = some .cell ∨ (relabel scope X.env).names.lookup y = some .free := hy
      have hm : (y, NameKind.free) ∈ scope.names := by
        rcases hy' with e | e
        · rcases relabel_mem (lookup_mem e) with q | ⟨_, q⟩
          · exact absurd rfl (hcell _ q)
          · exact q
        · rcases relabel_mem (lookup_mem e) with q | ⟨q, _⟩
          · exact q
          · cases q
      obtain ⟨c, q⟩ := hcl2 _ hm rfl
      exact mem_lookup q
    · obtain ⟨f0, f1, f3, f4, f5, f6⟩ := f2 b hb
      refine ⟨fun z => ?_, fun y c e => f5 y c (lk y c e)⟩
      obtain ⟨o, ho, _⟩ := T.obj _ _ st2 b hb
      have z' : b = C := z
      rw [z', hC0] at ho; cases ho
    · exact Nat.le_trans I2.ok.bsz I2.sz
    · obtain ⟨f0, f1, f3, f4, f5, f6⟩ := f2 b hb
      rcases f4 with z | z
      · exact I2.ok.noex b o e z
      · exact absurd (Nat.lt_of_lt_of_le (Heap.lt_size e) (Nat.le_trans I2.ok.bsz z)) (Nat.lt_irrefl _)
    · obtain ⟨f0, f1, f3, f4, f5, f6⟩ := f2 b hb
      rcases List.mem_cons.mp (I2.stkSub b hz) with z | z
      · exact f1 z
      · exact f3 z
  let τ : St := none :: compSt (fs.map (·.2)) σ
  have hτ : τ.length = (x :: fs.map (·.1)).length := by simp [τ, compSt]
  obtain ⟨mL, hnL, hlL⟩ := id I2.loc
  have yI : Inv Y [] τ H2 { s2 with heap := h₁, toks := s2.toks + ([] : List (Str × Value)).length } := by
    refine ⟨yok, rfl, I2.bare, Un.kept old, ⟨_, hns₁, fun i y v e1 e2 e3 => ?_⟩, fun y c e => ?_, HC, fun y c e => I2.freeC y c (lk y c e), (fun p hp => nomatch hp), I2.hok.kept old, hτ⟩
    · cases i with
      | zero => simp [τ] at e2
      | succ i =>
        have e1' : (fs.map (·.1))[i]? = some y := e1
        have e2' : (compSt (fs.map (·.2)) σ)[i]? = some (some v) := by simpa [τ] using e2
        rw [List.getElem?_map] at e1'
        cases q : fs[i]? with
        | none => rw [q] at e1'; cases e1'
        | some f =>
          rw [q] at e1'
          have ey : f.1 = y := Option.some.inj e1'
          obtain ⟨g1, g2, g3⟩ := hfs f (List.mem_of_getElem? q)
          have e2'' : (σ[f.2]?).join = some v := by
            unfold compSt at e2'
            rw [List.getElem?_map, List.getElem?_map, q] at e2'
            exact Option.some.inj e2'
          have e2c : σ[f.2]? = some (some v) := by
            cases r : σ[f.2]? with
            | none => rw [r] at e2''; cases e2''
            | some o => rw [r] at e2''; have e2'' : o = some v := e2''; rw [e2'']
          have vis : Vis X.env.scope f.1 := by
            rcases g2 with g | g
            · exact .inr (.inl g)
            · exact .inr (.inr g)
          obtain ⟨u, ru, lu⟩ := hlL f.2 f.1 v g1 e2c vis
          refine ⟨u, ru, ?_⟩
          have lu' : ∃ c, X.env.cells.lookup f.1 = some c ∧ s2.heap.IsCell c (some u) := by
            rcases lu with ⟨k, _⟩ | ⟨_, c, e, z⟩
            · rcases g2 with g | g
              · rw [k] at g; cases g
              · rw [k] at g; cases g
            · exact ⟨c, e, z⟩
          obtain ⟨c, hc1, hc2⟩ := lu'
          obtain ⟨c', hm⟩ := hcl2 _ (lookup_mem g3) rfl
          have hm' := hcl1 _ hm
          obtain ⟨c2, hl2⟩ := mem_lookup hm
          have := lk _ _ hl2
          rw [hc1] at this; cases this
          obtain ⟨oc, ho, hdt⟩ := hc2
          refine .inr ⟨?_, c, by rw [← ey]; exact hl2, oc, old c oc ho, hdt⟩
          rw [← ey]
          exact lookup_relabel_free g3
    · obtain ⟨v, oc, ho, hdt⟩ := I2.cell y c (lk y c e)
      exact ⟨v, oc, old c oc ho, hdt⟩
  have hx' : Y.env.scope.names.lookup x = some .local := lookup_relabel_local hx
  have fpD : ∀ b ∈ fp, b ≠ D := fun b hb z => by
    obtain ⟨o, ho, _⟩ := T.obj _ _ st2 b hb
    rw [z, hD0] at ho; cases ho
  have stD : D ∉ frs X.stack := fun hz => by
    rcases List.mem_cons.mp (I2.stkSub D hz) with z | z
    · have := I2.lt; rw [eD, ← z] at this; exact absurd this (Nat.lt_irrefl _)
    · exact I2.nofs (by rw [eD]; exact Nat.le_refl _) z
  have cellD : ∀ y c, cl.lookup y = some c → c ≠ D := fun y c e z => by
    obtain ⟨v, oc, ho, _⟩ := I2.cell y c (lk y c e)
    rw [z, hD0] at ho; cases ho
  have stat : ∀ {H' : Hp} {oD : Obj}, (∀ b ∈ fp, H' b = none) → ∀ b ∈ fp, FpOk Y [(D, oD)] H' b := fun hn b hb => by
    refine ⟨hn b hb, (yok.exf b hb).1, yok.exfs b hb, .inl hb, (yok.exf b hb).2, fun p hp z => ?_⟩
    have hp' : p ∈ [(D, _)] := hp
    rw [List.mem_singleton.mp hp'] at z
    exact fpD b hb z.symm
  obtain ⟨m0, w0⟩ := w0
  have loop : ∀ s₃ : Shared, s₃ = { s2 with heap := h₁, toks := s2.toks + ([] : List (Str × Value)).length } →
      codeAny (model X.prog X.w) X.A (.compLoop (.ListComp elt [⟨.Name x px, iter, ifs, 0⟩] scope pos) 0 (.ref it) (.ref D) (compEnvC scope cl C X.env)) (P (.ref D) C) s₃ := by
    rintro s₃ rfl
    refine compLoop_any (fun n s' => ∃ i ys its H', Inv Y [] τ H' s' ∧ tn i s'.heap ∧ (∀ b ∈ fp, H' b = none) ∧ H' D = none ∧ s'.heap.PlainList D (List.toArray its) ∧ Vals ys its ∧ W i n ys H') ?_ m0
      ⟨0, [], [], H2, yI, T.keep _ _ _ st2 (fun b _ o e => old b o e), fun b hb => (f2 b hb).1, HD, hacc, .nil, w0⟩
    rintro n s3 ⟨i, ys, its, H3, I3, st3, fr3, hD3, ⟨n0, hoD⟩, rv3, w3⟩
    obtain ⟨hz, ht⟩ := turn i n ys H3 w3
    have I3' : Inv Y [(D, { cls := .type "list", data := .seq its.toArray n0 })] τ H3 s3 := I3.pins_of fun p hp => by
      rw [List.mem_singleton.mp hp]
      exact ⟨hoD, hD3, hDC, stD, fun v z => by cases z⟩
    rcases ht with ⟨stop, q⟩ | ⟨go, hz', step⟩
    · refine thn (T.done Y rfl rfl rfl hc i _ s3 τ H3 _ I3' (stat fr3) st3 stop) fun r s4 ⟨hr, I4⟩ => ?_
      subst hr
      obtain ⟨m, hn, _⟩ := I4.loc
      exact hP D C H3 s4 ys its m (by rw [hC]; exact Nat.le_succ _) hD0 hC0 hDC hD3 I4.free hn ⟨n0, (I4.pin (D, _) (List.mem_append_right _ List.mem_cons_self)).1⟩ rv3 hz q I4.base I4.hok I4.bare I4.os
    · refine thn (T.item Y rfl rfl rfl hc i _ s3 τ H3 _ I3' (stat fr3) st3 go) fun r s4 ⟨u, hr, h4⟩ => ?_
      subst hr
      refine thn h4 fun _ s5 ⟨x', H5, I5, r5, y5, st5, fr5⟩ => ?_
      have I5' := I5.pinned (fp := fp) (stat fr5) (T.obj _ _ st5)
      refine thn (pg_name (X := Y) (i := 0) (pos := px) hnd rfl (.inl hx') (.inr hx') _ s5 τ H5 x' u (fun σ' H' => σ' = some x' :: compSt (fs.map (·.2)) σ ∧ H' = H5) I5' r5 ⟨rfl, rfl⟩) fun _ s6 ⟨σ6, H6, I6, e6, e6'⟩ => ?_
      subst e6 e6'
      have back : ∀ {σ' : St} {H' : Hp} {s' : Shared}, Inv Y ([(D, { cls := .type "list", data := .seq its.toArray n0 })] ++ pinsAt fp s5.heap) (some x' :: compSt (fs.map (·.2)) σ) H' s' →
          Inv Y [] τ H' s' ∧ tn (i + 1) s'.heap ∧ (∀ b ∈ fp, H' b = none) ∧ H' D = none ∧ s'.heap.PlainList D its.toArray := fun {σ' H' s'} J' => by
        refine ⟨(J'.pins_of (pins' := []) (fun p hp => absurd hp (by simp))).weak rfl fun j v e => ?_, T.keep _ _ _ st5 fun b hb o e => (J'.pin (b, o) (List.mem_append_right _ (List.mem_append_right _ (mem_pinsAt hb e)))).1, fun b hb => ?_, ?_, n0, ?_⟩
        · cases j with
          | zero => cases e
          | succ j => exact e
        · obtain ⟨o, e, d⟩ := T.obj _ _ st5 b hb
          exact (J'.pin (b, o) (List.mem_append_right _ (List.mem_append_right _ (mem_pinsAt hb e)))).2.1
        · exact (J'.pin (D, _) (List.mem_append_right _ (List.mem_append_left _ List.mem_cons_self))).2.1
        · exact (J'.pin (D, _) (List.mem_append_right _ (List.mem_append_left _ List.mem_cons_self))).1
      refine thn ((hb cl C s2 H2 fp).1 _ s6 _ _ _ I6 (step x' H6 y5)) fun ok s7 ⟨H7, I7, q7⟩ => ?_
      cases ok with
      | false =>
        obtain ⟨m', hm, w7⟩ := q7
        obtain ⟨a1, a2, a3, a4, a5⟩ := back (σ' := τ) I7
        exact ⟨m', hm, i + 1, ys, its, H7, a1, a2, a3, a4, a5, rv3, w7⟩
      | true =>
        refine thn ((hb cl C s2 H2 fp).2 _ s7 _ _ _ I7 q7) fun y s8 ⟨yv, H8, I8, ry, m', hm, w8⟩ => ?_
        obtain ⟨a1, a2, a3, a4, a5⟩ := back (σ' := τ) I8
        have hlen := rv3.length
        refine wpAny_list_append_plain (hsz := by rw [List.size_toArray, ← hlen]; exact hz) a5 fun h' hl' hs' => ?_
        refine ⟨m', hm, i + 1, ys ++ [yv], its ++ [y], H8, a1.turned (t' := s8.toks) (it := D) (fun b o hb e => hs'.extBut b o hb e) a4 hDC (.inr (by show s2.heap.objs.size ≤ D; rw [eD]; exact Nat.le_refl _)) (fun y c e => cellD y c e) (fun p hp => absurd (show p ∈ ([] : List (Addr × Obj)) from hp) (by simp)), T.keep _ _ _ a2 fun b hb o e => hs'.extBut b o (fpD b hb) e, a3, a4, by simpa using hl', rv3.append (.cons ry .nil), w8⟩
  exact codeAny_compStart_list (loop _ rfl) (T.self X.A 0 _ _ _ (T.keep _ _ _ st2 (fun b _ o e => old b o e)) (loop _ rfl))
theorem comp_after {pins : List (Addr × Obj)} {σ : St} {H2 H' : Hp} {s2 s' : Shared} {fp : List Addr} {D C : Addr} {ys : List V} {its : List Value} {h' : Heap} {tk : Nat} (I2 : Inv X pins σ H2 s2) (f2 : ∀ b ∈ fp, FpOk X pins H2 b)
    (hD : s2.heap.get? D = none) (hC : s2.heap.get? C = none) (hDC : D ≠ C) (HD : H' D = none) (HC : H' C = none) (pl : s'.heap.PlainList D its.toArray) (rv : Vals ys its) (hz : ys.length ≤ sizeLine)
    (u : Un (frs X.stack) fp H2 H' s2.heap s'.heap) (hok : HOk X.prog X.w H' s'.heap) (hg : AllBare s'.gens) (ho : s'.os = s2.os) (hs : Heap.SameBut C s'.heap h') :
    Inv X pins σ (upd H' D (.lst ys)) { s' with heap := h', toks := tk } := by
  have kC : ∀ b o, b ≠ C → s'.heap.get? b = some o → h'.get? b = some o := fun b o hb e => hs.extBut b o hb e
  have neC : ∀ b o, s2.heap.get? b = some o → b ≠ C := fun b o e z => by rw [z, hC] at e; cases e
  have neD : ∀ b o, s2.heap.get? b = some o → b ≠ D := fun b o e z => by rw [z, hD] at e; cases e
  have trD : ∀ b o, H' b = some o → b ≠ D := fun b o e z => by rw [z, HD] at e; cases e
  refine I2.call' (ch := fp) ho ⟨fun b o e n hb hx => kC b o (neC b o e) (u.keep b o e n hb hx), fun b o e n hb hx => ?_, fun b o e n hx => ?_, fun b o e hx => ?_, fun b xs e => ?_, fun b o w e => ?_, fun b ps e => ?_⟩ (fun b o e => ?_) hg fun b hb => ?_
  · obtain ⟨sl, q⟩ := u.slot b o e n hb hx
    exact ⟨sl, kC b _ (neC b o e) q⟩
  · rw [upd_ne (neD b o e)]; exact u.free b o e n hx
  · obtain ⟨o', q⟩ := u.there b o e hx
    exact ⟨o', kC b _ (neC b o e) q⟩
  · have q := u.tups b xs e
    rw [upd_ne (trD b _ q)]; exact q
  · have q := u.frzs b o w e
    rw [upd_ne (trD b _ q)]; exact q
  · obtain ⟨more, q⟩ := u.tbls b ps e
    exact ⟨more, by rw [upd_ne (trD b _ q)]; exact q⟩
  · by_cases hb : b = D
    · subst hb
      rw [upd_same] at e
      cases e
      obtain ⟨n, q⟩ := pl
      exact ⟨hz, its, n, rv, kC b _ hDC q⟩
    · rw [upd_ne hb] at e
      refine (hok b o e).stay (fun c v hc q => kC c v (fun z => ?_) q) (fun c q => by rw [upd_ne (trD c _ q)]; exact q) fun c xs q => by rw [upd_ne (trD c _ q)]; exact q
      rcases hc with hc | hc
      · rw [hc] at z; rw [z, HC] at e; cases e
      · rw [z, HC] at hc; cases hc
  · obtain ⟨f0, f1, f3, f4, f5, f6⟩ := f2 b hb
    exact ⟨f4, f1, f5, f6⟩
theorem pe_comp {elt iter : Expr} {x : Str} {px pos : Pos} {ifs : List Expr} {scope : Scope} (fs : List (Str × Nat)) {wi : TI} {tt : TT} {te : TE}
    (hc : X.calm = true) (hkind : scope.kind = .function) (hcell : ∀ y ∈ scope.names, y.2 ≠ .cell) (hnames : ∀ y ∈ scope.names, y.2 = .local → scope.names.lookup y.1 = some .local)
    (hfree : ∀ y ∈ scope.names, y.2 = .free → X.env.kindOf y.1 = some .cell ∨ X.env.kindOf y.1 = some .free) (hx : scope.names.lookup x = some .local)
    (hnd : (x :: fs.map (·.1)).Nodup) (hfs : ∀ f ∈ fs, X.N[f.2]? = some f.1 ∧ (X.env.kindOf f.1 = some .cell ∨ X.env.kindOf f.1 = some .free) ∧ scope.names.lookup f.1 = some .free)
    (hi : PI X (.Name x px) iter wi)
    (hb : ∀ (cl : List (Str × Addr)) (C : Addr) (s₀ : Shared) (H₀ : Hp) (ex : List Addr), PTs (cxComp X scope cl C (x :: fs.map (·.1)) s₀ H₀ ex) ifs tt ∧ PE (cxComp X scope cl C (x :: fs.map (·.1)) s₀ H₀ ex) elt te)
    (hs : ∀ x, foldedSetIterable iter X.env x = pure x := by intro _; rfl) :
    PE X (.ListComp elt [⟨.Name x px, iter, ifs, 0⟩] scope pos) (tComp wi (fs.map (·.2)) tt te) := by
  intro pins s σ H Q I h
  obtain ⟨cl, hclos, hcl1, hcl2⟩ := closureFor_ex (env := X.env) (scope := scope) fun y hy hk => I.ok.has y.1 (hfree y hy hk)
  rw [eval_ListComp]
  refine wpAny_comprehension_free (use := none) rfl hs hclos hkind hnames (thn (hi pins s σ H _ I h) fun v s1 h1 => thn h1 fun itv s2 h2 => ?_)
  obtain ⟨it, fp, tn, J, H2, e, I2, T, st2, f2, W, w0, turn⟩ := h2
  subst e
  refine comp_block (pins := pins) hc hkind hcell hx hnd hfs hb hcl1 hcl2 I2 T st2 f2 W (fun H ys => ∀ p, H p = none → Q (.ref p) (upd H p (.lst ys))) w0 turn ?_
  intro D C H' s' ys its m hCs hD hC hDC HD HC hn pl rv hz q u hok hg ho
  exact ⟨m, hn, fun h' hs' => ⟨.ref D, _, comp_after (tk := s'.toks) I2 f2 hD hC hDC HD HC pl rv hz u hok hg ho hs', rfl, q D HD⟩⟩
def tCompSet (i : Nat) (wi : TI) (fs : List Nat) (tt : TT) (te : TE) : TS := fun D σ H => tComp wi fs tt te σ H fun v H1 => D.nx (σ.set i (some v)) H1
theorem ps_comp {i : Nat} {y : Str} {py spos : Pos} {elt iter : Expr} {x : Str} {px pos : Pos} {ifs : List Expr} {scope : Scope} (fs : List (Str × Nat)) {wi : TI} {tt : TT} {te : TE}
    (hN : X.N.Nodup) (hy : X.N[i]? = some y) (hyl : X.env.scope.names.lookup y = some .local)
    (hc : X.calm = true) (hkind : scope.kind = .function) (hcell : ∀ y ∈ scope.names, y.2 ≠ .cell) (hnames : ∀ y ∈ scope.names, y.2 = .local → scope.names.lookup y.1 = some .local)
    (hfree : ∀ y ∈ scope.names, y.2 = .free → X.env.kindOf y.1 = some .cell ∨ X.env.kindOf y.1 = some .free) (hx : scope.names.lookup x = some .local)
    (hnd : (x :: fs.map (·.1)).Nodup) (hfs : ∀ f ∈ fs, X.N[f.2]? = some f.1 ∧ (X.env.kindOf f.1 = some .cell ∨ X.env.kindOf f.1 = some .free) ∧ scope.names.lookup f.1 = some .free)
    (hi : PI X (.Name x px) iter wi)
    (hb : ∀ (cl : List (Str × Addr)) (C : Addr) (s₀ : Shared) (H₀ : Hp) (ex : List Addr), PTs (cxComp X scope cl C (x :: fs.map (·.1)) s₀ H₀ ex) ifs tt ∧ PE (cxComp X scope cl C (x :: fs.map (·.1)) s₀ H₀ ex) elt te)
    (hsw : swapsWith (.ListComp elt [⟨.Name x px, iter, ifs, 0⟩] scope pos) (some (.Name y py)) spos.line X.env = pure true)
    (hs : ∀ x, foldedSetIterable iter X.env x = pure x := by intro _; rfl) :
    PS X (.Assign [.Name y py] (.ListComp elt [⟨.Name x px, iter, ifs, 0⟩] scope pos) spos) (tCompSet i wi (fs.map (·.2)) tt te) := by
  intro pins s σ H D' I h
  obtain ⟨cl, hclos, hcl1, hcl2⟩ := closureFor_ex (env := X.env) (scope := scope) fun y hy hk => I.ok.has y.1 (hfree y hy hk)
  rw [exec_Assign_Name_used _ _ _ _ hsw]
  refine wpAny_bind (wpAny_standAt (wpAny_bind ?_))
  show wpAny _ X.A (do let _ ← comprehension (.ListComp elt [⟨.Name x px, iter, ifs, 0⟩] scope pos) scope X.env _ (newList []) false (eval iter X.env) (some (assign (.Name y py) X.env))) _ _ s
  refine wpAny_bind (wpAny_mono (wpAny_comprehension_free (use := some (assign (.Name y py) X.env)) (Q := fun _ s' => SP X pins D' .next s') rfl hs hclos hkind hnames
    (thn (hi pins s σ H _ I h) fun v s1 h1 => thn h1 fun itv s2 h2 => ?_)) (fun _ s' hq => wpAny_pure (wpAny_pure hq)) fun _ _ e => e)
  obtain ⟨it, fp, tn, J, H2, e, I2, T, st2, f2, W, w0, turn⟩ := h2
  subst e
  refine comp_block (pins := pins) hc hkind hcell hx hnd hfs hb hcl1 hcl2 I2 T st2 f2 W (fun H ys => ∀ p, H p = none → D'.nx (σ.set i (some (.ref p))) (upd H p (.lst ys))) w0 turn ?_
  intro D C H' s' ys its m hCs hD hC hDC HD HC hn pl rv hz q u hok hg ho
  show wpAny _ X.A (assign (.Name y py) X.env (.ref D)) _ _ _
  -- store, with the block's frame still there
  have J := comp_after (tk := s'.toks) I2 f2 hD hC hDC HD HC pl rv hz u hok hg ho (Heap.SameBut.refl C s'.heap)
  refine wpAny_assign_Name (store_ok2 J hN hy (.inl hyl) (v := .ref D) (u := .ref D) rfl (fun s3 J3 ⟨a, sb, ha⟩ => ?_) (.inr hyl))
  have exL : ∃ o, s2.heap.get? X.env.locals = some o := let ⟨_, ⟨o, _, _, e, _⟩, _⟩ := I2.loc; ⟨o, e⟩
  have cellC : ∀ z c, X.env.cells.lookup z = some c → c ≠ C := fun z c e q => by
    obtain ⟨v, oc, ho, _⟩ := I2.cell z c e
    rw [q, hC] at ho; cases ho
  have aC : a ≠ C := by
    rcases ha with z | z
    · obtain ⟨o, e⟩ := exL
      intro q
      rw [← z, q, hC] at e; cases e
    · exact cellC y a z
  have LC : C ≠ X.env.locals := fun q => by
    obtain ⟨o, e⟩ := exL
    rw [← q, hC] at e; cases e
  refine ⟨m, hn.sameBut sb (Ne.symm aC), fun h' hs' => ?_⟩
  exact ⟨_, _, J3.turned (t' := s3.toks) (it := C) (fun b o hb e => hs'.extBut b o hb e) (by rw [upd_ne (Ne.symm hDC)]; exact HC) LC (.inr (Nat.le_trans I2.sz hCs)) cellC (fun p hp z => by
    have := (I2.pin p hp).1
    rw [z, hC] at this; cases this), q D HD⟩
end
end L2
set_option Elab.async false
set_option linter.all false
set_option maxRecDepth 100000
namespace L2
open PySem PySem.Spec PyProof.Rows PySem.Builtin.Str
def txt (l : List Nat) : Str := ⟨l.toArray⟩
theorem txt_codes (x : Str) : txt x.cps.toList = x := by cases x; simp [txt]
theorem codes_txt (l : List Nat) : (txt l).cps.toList = l := by simp [txt]
theorem txt_len (l : List Nat) : (txt l).length = l.length := by simp [txt, Str.length]
theorem txt_inj {a b : List Nat} : txt a = txt b ↔ a = b := ⟨fun h => by simpa [txt] using h, fun h => by rw [h]⟩
theorem txt_app (a b : List Nat) : txt a ++ txt b = txt (a ++ b) := by
  show Str.mk (a.toArray ++ b.toArray) = _
  simp [txt]
def cutL (xs : List Nat) (lo hi : Option Int) : List Nat := (xs.drop (HT.sIx xs.length 0 lo)).take (HT.sIx xs.length xs.length hi - HT.sIx xs.length 0 lo)
theorem clip_str (v : Option Int) (n d : Nat) : (match v with | none => ((d : Nat) : Int) | some i => (if (1 : Int) > 0 then max 0 (min (if i < 0 then i + (n : Int) else i) (n : Int)) else max (-1) (min (if i < 0 then i + (n : Int) else i) ((n : Int) - 1)))) = ((HT.sIx n d v : Nat) : Int) := by
  cases v with
  | none => rfl
  | some i =>
    show (if (1 : Int) > 0 then max 0 (min (if i < 0 then i + (n : Int) else i) (n : Int)) else _) = (((if i < 0 then (i + (n : Int)).toNat else min i.toNat n) : Nat) : Int)
    rw [if_pos (by decide)]
    by_cases h : i < 0
    · rw [if_pos h, if_pos h]; omega
    · rw [if_neg h, if_neg h]; omega
theorem sIx_le (n d : Nat) (v : Option Int) (h : d ≤ n) : HT.sIx n d v ≤ n := by
  cases v with
  | none => exact h
  | some i =>
    show (if i < 0 then (i + (n : Int)).toNat else min i.toNat n) ≤ n
    split <;> omega
theorem slice_txt (l : List Nat) (lo hi : Option Int) : Txt.slice (txt l) lo hi = txt (cutL l lo hi) := by
  have e : strSliceIndices lo hi 1 (txt l).length = (List.range (HT.sIx l.length l.length hi - HT.sIx l.length 0 lo)).map (HT.sIx l.length 0 lo + ·) := by
    rw [txt_len]
    unfold strSliceIndices
    simp only [if_pos (show (1 : Int) > 0 by decide)]
    have e1 := clip_str lo l.length 0
    have e2 := clip_str hi l.length l.length
    simp only [if_pos (show (1 : Int) > 0 by decide)] at e1 e2
    have e1' : ((0 : Nat) : Int) = 0 := rfl
    rw [e1'] at e1
    have key : ∀ a b a' b' : Int, a = a' → b = b' → sliceRange a b 1 = sliceRange a' b' 1 := fun a b a' b' h1 h2 => by rw [h1, h2]
    exact Eq.trans (key _ _ _ _ e1 e2) (sliceRange_one _ _)
  unfold Txt.slice
  rw [e]
  have e3 : (((List.range (HT.sIx l.length l.length hi - HT.sIx l.length 0 lo)).map (HT.sIx l.length 0 lo + ·)).filterMap ((txt l).cps[·]?)) = cutL l lo hi := by
    rw [pick_run, codes_txt]; rfl
  rw [e3]
  split
  · rename_i hc
    have hc' : HT.sIx l.length l.length hi - HT.sIx l.length 0 lo = l.length := by
      rw [txt_len] at hc
      simpa using hc
    have h1 := sIx_le l.length l.length hi (Nat.le_refl _)
    have h0 : HT.sIx l.length 0 lo = 0 ∨ l.length = 0 := by omega
    unfold cutL
    rw [hc']
    rcases h0 with h0 | h0
    · rw [h0]; simp
    · have : l = [] := List.length_eq_zero_iff.mp h0
      subst this; simp
  · rfl
section
variable {X : Cx}
def rSlS : V → Option Int → Option Int → Hp → VK → Prop := fun x lo hi H Q => ∃ l, x = .str (txt l) ∧ l.length ≤ sizeLine ∧ Q (.str (txt (cutL l lo hi))) H
theorem isSlice_of {h : Heap} {sl : Addr} {vl vu : Value} {lo hi : Option Int} (hs : h.IsSliceOf sl vl vu .none) (pl : IsPart vl lo) (pu : IsPart vu hi) :
    ∃ (l u : Option (Int × Tok)), h.IsSlice sl l u none ∧ l.map (·.1) = lo ∧ u.map (·.1) = hi := by
  obtain ⟨o, ho, hc, hd⟩ := hs
  cases pl with
  | none =>
    cases pu with
    | none => exact ⟨none, none, ⟨o, ho, hc, hd⟩, rfl, rfl⟩
    | int j u => exact ⟨none, some (j, u), ⟨o, ho, hc, hd⟩, rfl, rfl⟩
  | int i t =>
    cases pu with
    | none => exact ⟨some (i, t), none, ⟨o, ho, hc, hd⟩, rfl, rfl⟩
    | int j u => exact ⟨some (i, t), some (j, u), ⟨o, ho, hc, hd⟩, rfl, rfl⟩
theorem sl_str : SlR X rSlS := by
  intro pins s σ H x v vl vu lo hi sl Q I rx hs pl pu h
  obtain ⟨l, rfl, hz, q⟩ := h
  obtain ⟨t, rfl⟩ := rx
  obtain ⟨l', u', hS, rfl, rfl⟩ := isSlice_of hs pl pu
  refine ⟨"str", _, F.slot_str_getitem.lookup, typeIs_str _ _ _, wpAny_getItem_str_slice hS rfl ?_⟩
  have key : ∀ t' k, EP X pins σ Q (.str (Txt.slice (txt l) (l'.map (·.1)) (u'.map (·.1))) t') { s with toks := k } := fun t' k => ⟨.str (txt (cutL l _ _)), H, I.tok _, ⟨t', by rw [slice_txt]⟩, q⟩
  have e : sliceMade (txt l) t l' u' none = (if ((1 : Int) == 1 && (strSliceIndices (l'.map (·.1)) (u'.map (·.1)) 1 (txt l).length).length == (txt l).length) = true then Made.val (.str (txt l) t) else Made.str ⟨((strSliceIndices (l'.map (·.1)) (u'.map (·.1)) 1 (txt l).length).filterMap ((txt l).cps[·]?)).toArray⟩) := rfl
  rw [e]
  exact post_val_or_str ⟨Nat.le_trans (Txt.slice_le _ _ _) (by rw [txt_len]; exact hz), key⟩
def rEnds : V → List V → Hp → VK → Prop := fun x vs H Q => ∃ l m, x = .str (txt l) ∧ vs = [.str (txt m)] ∧ Q (.bl (decide (m.length ≤ l.length) && (l.drop (l.length - m.length) == m))) H
theorem ends_eq (l m : List Nat) : Txt.endswith (txt l) (txt m) = (decide (m.length ≤ l.length) && (l.drop (l.length - m.length) == m)) := by
  unfold Txt.endswith
  rw [txt_len, txt_len]
  by_cases h : m.length ≤ l.length
  · rw [decide_eq_true h, decide_eq_true (show 0 + m.length ≤ l.length by omega)]
    simp only [Bool.true_and]
    unfold subAt
    rw [txt_len]
    have e : (txt l).cps.extract (l.length - m.length) (l.length - m.length + m.length) = (l.drop (l.length - m.length)).toArray := by
      simp only [txt, List.extract_toArray, List.extract_eq_take_drop]
      congr 1
      rw [List.take_of_length_le]
      rw [List.length_drop]; omega
    rw [e]
    show ((l.drop (l.length - m.length)).toArray == m.toArray) = _
    rw [Bool.eq_iff_iff]; simp
  · rw [decide_eq_false h, decide_eq_false (show ¬ 0 + m.length ≤ l.length by omega)]
    simp
theorem mt_endswith : MtR X "str.endswith" rEnds := by
  intro pins s σ H x vs v us Q I rx rv h
  obtain ⟨l, m, rfl, rfl, q⟩ := h
  obtain ⟨t, rfl⟩ := rx
  obtain ⟨u, rfl, t', rfl⟩ := rv.one
  refine call_gives F.slot_str_endswith (typeIs_str _ _ _) F.entry_str_endswith (F.args_str_endswith_2 _ _) (gives_str_endswith _ _ t t') ?_
  refine ⟨.bl _, H, I, ?_, q⟩
  rw [← ends_eq]; rfl
def rstripL (p : Nat → Bool) (l : List Nat) : List Nat := (l.reverse.dropWhile p).reverse
theorem rstrip_eq (p : Nat → Bool) (l : List Nat) : Txt.stripBy p false true (txt l) = txt (rstripL p l) := by
  have hlen : (l.reverse.takeWhile p).length + (l.reverse.dropWhile p).length = l.length := by
    have := congrArg List.length (List.takeWhile_append_dropWhile (p := p) (l := l.reverse))
    rw [List.length_append, List.length_reverse] at this
    exact this
  have hpre : l.take (l.length - (l.reverse.takeWhile p).length) = rstripL p l := by
    have e : l = rstripL p l ++ (l.reverse.takeWhile p).reverse := by
      have := congrArg List.reverse (List.takeWhile_append_dropWhile (p := p) (l := l.reverse))
      rw [List.reverse_append, List.reverse_reverse] at this
      exact this.symm
    have hl : (rstripL p l).length = l.length - (l.reverse.takeWhile p).length := by unfold rstripL; rw [List.length_reverse]; omega
    have h := List.take_left (l₁ := rstripL p l) (l₂ := (l.reverse.takeWhile p).reverse)
    rw [← e, hl] at h
    exact h
  unfold Txt.stripBy stripSame stripped stripLo stripHi
  simp only [Bool.false_eq_true, if_false, if_true, codes_txt, List.drop_zero, txt_len]
  have e2 : strSub (txt l) 0 (l.length - (l.reverse.takeWhile p).length) = txt (rstripL p l) := by
    rw [← hpre]
    simp [strSub, txt, List.extract_eq_take_drop]
  split
  · rename_i hc
    have hc' : l.length - (l.reverse.takeWhile p).length = l.length := by simpa using hc
    rw [← hpre, hc', List.take_length]
  · exact e2
def rRstrip : V → List V → Hp → VK → Prop := fun x vs H Q => ∃ l m, x = .str (txt l) ∧ vs = [.str (txt m)] ∧ l.length ≤ sizeLine ∧ Q (.str (txt (rstripL (fun c => m.contains c) l))) H
theorem mt_rstrip : MtR X "str.rstrip" rRstrip := by
  intro pins s σ H x vs v us Q I rx rv h
  obtain ⟨l, m, rfl, rfl, hz, q⟩ := h
  obtain ⟨t, rfl⟩ := rx
  obtain ⟨u, rfl, t', rfl⟩ := rv.one
  refine call_gives F.slot_str_rstrip (typeIs_str _ _ _) F.entry_str_rstrip (F.args_str_rstrip_2 _ _) (gives_str_rstrip_chars _ _ t t') ?_
  refine post_val_or_made (fun _ => fits_stripped _ _ _ (by rw [txt_len]; exact hz)) fun t' k => ⟨.str (txt (rstripL (fun c => m.contains c) l)), H, I.tok _, ⟨t', ?_⟩, q⟩
  have e : (txt m).cps.contains = fun c => m.contains c := by funext c; simp [txt]
  show Value.str (Txt.stripBy (txt m).cps.contains false true (txt l)) t' = _
  rw [e, rstrip_eq]
theorem occ_one {l : List Nat} {c : Nat} (h : c ∈ l) : ∃ rest, occurrences (txt l) (txt [c]) 0 (txt l).length 1 = l.idxOf c :: rest := by
  have hf := PyProof.Rows.find_whole (txt l) (txt [c])
  have hlt := List.idxOf_lt_length_iff.mpr h
  have at_ : ∀ i, StrLaws.At (txt l) (txt [c]) (txt l).length i ↔ l[i]? = some c := fun i => by
    unfold StrLaws.At subAt
    rw [txt_len, txt_len]
    simp only [txt, List.extract_toArray, List.extract_eq_take_drop, List.length_cons, List.length_nil]
    rw [List.getElem?_eq_some_iff]
    constructor
    · rintro ⟨h1, h2⟩
      have h3 : i < l.length := by omega
      refine ⟨h3, ?_⟩
      have h4 : (l.drop i).take 1 = [c] := by simpa using h2
      rw [List.drop_eq_getElem_cons h3] at h4
      have h5 : [l[i]] = [c] := h4
      injection h5
    · rintro ⟨h1, h2⟩
      refine ⟨by omega, ?_⟩
      have h4 : (l.drop i).take (i + (0 + 1) - i) = [c] := by
        rw [List.drop_eq_getElem_cons h1, h2]
        have : i + (0 + 1) - i = 1 := by omega
        rw [this]; rfl
      rw [h4]; simp
  have hi : l[l.idxOf c]? = some c := by rw [List.getElem?_eq_getElem hlt]; congr 1; exact List.getElem_idxOf hlt
  rcases hf with ⟨_, hn⟩ | ⟨i, e, ha, hb⟩
  · exact absurd ((at_ _).mpr hi) (hn _)
  · have hi2 := (at_ i).mp ha
    have ei : i = l.idxOf c := by
      have h1 : ¬ l.idxOf c < i := fun z => hb _ z ((at_ _).mpr hi)
      have h2 : l.idxOf c ≤ i := by
        obtain ⟨h3, h4⟩ := List.getElem?_eq_some_iff.mp hi2
        have := List.idxOf_lt_length_iff.mpr h
        rcases Nat.lt_or_ge i (l.idxOf c) with z | z
        · exfalso
          have := List.not_of_lt_findIdx (p := (· == c)) (xs := l) (i := i) (by simpa [List.idxOf] using z)
          simp [h4] at this
        · exact z
      omega
    unfold Txt.find at e
    cases ho : occurrences (txt l) (txt [c]) 0 (txt l).length 1 with
    | nil => rw [ho] at e; simp only at e; omega
    | cons a r =>
      rw [ho] at e
      have ea : (a : Int) = (i : Int) := e
      have ea' : a = i := by omega
      exact ⟨r, by rw [ea', ei]⟩
def rIndex : V → List V → Hp → VK → Prop := fun x vs H Q => ∃ l c, x = .str (txt l) ∧ vs = [.str (txt [c])] ∧ c ∈ l ∧ Q (.int (l.idxOf c : Nat)) H
theorem mt_index : MtR X "str.index" rIndex := by
  intro pins s σ H x vs v us Q I rx rv h
  obtain ⟨l, c, rfl, rfl, hm, q⟩ := h
  obtain ⟨t, rfl⟩ := rx
  obtain ⟨u, rfl, t', rfl⟩ := rv.one
  obtain ⟨rest, ho⟩ := occ_one hm
  exact call_gives F.slot_str_index (typeIs_str _ _ _) F.entry_str_index (F.args_str_index_2 _ _) (gives_str_index _ _ t t' _ rest ho) ⟨.int _, H, I.tok _, ⟨_, rfl⟩, q⟩
theorem op_ltS : OpR X (compareOp .Lt) (fun x y H Q => ∃ i j, x = .str (txt i) ∧ y = .str (txt j) ∧ Q (.bl (decide (i < j))) H) := by
  intro pins s σ H x y v u Q I rx ry h
  obtain ⟨i, j, rfl, rfl, q⟩ := h
  obtain ⟨t, rfl⟩ := rx
  obtain ⟨t', rfl⟩ := ry
  exact lt_str (fin_bl I q (by rw [codes_txt, codes_txt]))
theorem op_gtS : OpR X (compareOp .Gt) (fun x y H Q => ∃ i j, x = .str (txt i) ∧ y = .str (txt j) ∧ Q (.bl (decide (j < i))) H) := by
  intro pins s σ H x y v u Q I rx ry h
  obtain ⟨i, j, rfl, rfl, q⟩ := h
  obtain ⟨t, rfl⟩ := rx
  obtain ⟨t', rfl⟩ := ry
  exact PySem.P.gt_str (fin_bl I q (by rw [codes_txt, codes_txt]))
theorem op_geS : OpR X (compareOp .GtE) (fun x y H Q => ∃ i j, x = .str (txt i) ∧ y = .str (txt j) ∧ Q (.bl (!decide (i < j))) H) := by
  intro pins s σ H x y v u Q I rx ry h
  obtain ⟨i, j, rfl, rfl, q⟩ := h
  obtain ⟨t, rfl⟩ := rx
  obtain ⟨t', rfl⟩ := ry
  exact PySem.P.ge_str (fin_bl I q (by rw [codes_txt, codes_txt]))
theorem op_addS : OpR X (binaryOp .Add) (fun x y H Q => ∃ i j, x = .str (txt i) ∧ y = .str (txt j) ∧ i.length + j.length ≤ sizeLine ∧ Q (.str (txt (i ++ j))) H) := by
  intro pins s σ H x y v u Q I rx ry h
  obtain ⟨i, j, rfl, rfl, hz, q⟩ := h
  exact op_add_str pins s σ H _ _ v u Q I rx ry ⟨_, _, rfl, rfl, by rw [txt_len, txt_len]; exact hz, by rw [txt_app]; exact q⟩
theorem ix_strL : IxR X (fun x y H Q => ∃ (l : List Nat) (i : Nat) (c : Nat), x = .str (txt l) ∧ y = .int i ∧ l.length ≤ sizeLine ∧ l[i]? = some c ∧ Q (.str (txt [c])) H) := by
  intro pins s σ H value slice x y v u Q I rx ry h hs
  obtain ⟨l, i, c, rfl, rfl, hz, e, q⟩ := h
  exact ix_str pins s σ H value slice _ _ v u Q I rx ry ⟨_, _, c, rfl, rfl, by rw [txt_len]; exact hz, by rw [codes_txt]; exact atI_nat e, q⟩ hs
theorem call_lenS : CallR X (.builtin "len") (fun xs H Q => ∃ z, xs = [.str (txt z)] ∧ z.length ≤ sizeLine ∧ Q (.int z.length) H) := by
  intro pins s σ H xs us Q I r h
  obtain ⟨z, rfl, hz, q⟩ := h
  exact call_len_str pins s σ H _ us Q I r ⟨_, rfl, by rw [txt_len]; exact hz, by rw [txt_len]; exact q⟩
end
end L2
set_option Elab.async false
set_option linter.all false
set_option maxRecDepth 100000
namespace L2
open PySem PySem.Spec PyProof.Rows PySem.Builtin.Str
def joinL (sep : List Nat) : List (List Nat) → List Nat
  | [] => []
  | y :: r => r.foldl (fun acc p => acc ++ sep ++ p) y
theorem foldl_cps (sep : List Nat) : ∀ (r : List (List Nat)) (y : List Nat), ((r.map txt).foldl (fun acc p => acc ++ (txt sep).cps ++ p.cps) y.toArray) = (r.foldl (fun acc p => acc ++ sep ++ p) y).toArray
  | [], y => rfl
  | a :: r, y => by
    rw [List.map_cons, List.foldl_cons, List.foldl_cons, ← foldl_cps sep r (y ++ sep ++ a)]
    congr 1
    simp [txt]
theorem join_txt (sep : List Nat) (ys : List (List Nat)) : Txt.join (txt sep) (ys.map txt) = txt (joinL sep ys) := by
  cases ys with
  | nil => rfl
  | cons y r =>
    show (⟨_⟩ : Str) = _
    have := foldl_cps sep r y
    show (⟨(((y :: r).map txt).drop 1).foldl (fun acc p => acc ++ (txt sep).cps ++ p.cps) (((y :: r).map txt).headD Str.empty).cps⟩ : Str) = _
    simp only [List.map_cons, List.drop_one, List.tail_cons, List.headD_cons]
    have e : (txt y).cps = y.toArray := rfl
    rw [e, this]; rfl
theorem foldl_nilsep : ∀ (r : List (List Nat)) (y : List Nat), r.foldl (fun acc p => acc ++ [] ++ p) y = y ++ r.flatten
  | [], y => by simp
  | a :: r, y => by rw [List.foldl_cons, foldl_nilsep r]; simp
theorem joinL_nil (ys : List (List Nat)) : joinL [] ys = ys.flatten := by
  cases ys with
  | nil => rfl
  | cons y r => show r.foldl (fun acc p => acc ++ [] ++ p) y = _; rw [foldl_nilsep]; rfl
theorem strsAre_of : ∀ {ys : List Str} {us : List Value}, Vals (ys.map V.str) us → StrsAre us ys
  | [], _, .nil => .nil
  | y :: ys, _, .cons ⟨t, e⟩ r => by subst e; exact .cons y t (strsAre_of r)
theorem vals_strs : ∀ {us : List Value} {ys : List Str}, StrsAre us ys → Vals (ys.map V.str) us
  | _, _, .nil => .nil
  | _, _, .cons y t r => .cons ⟨t, rfl⟩ (vals_strs r)
def strV (l : List Nat) : V := .str (txt l)
theorem map_strV (ys : List (List Nat)) : ys.map strV = (ys.map txt).map V.str := by rw [List.map_map]; rfl
section
variable {X : Cx}
def rJoin (K : PySem.W.Frag) : V → List V → Hp → VK → Prop := fun x vs H Q => ∃ sep p ys, x = .str (txt sep) ∧ vs = [.ref p] ∧ SqL K H p (ys.map strV) ∧ (ys.map (·.length)).sum + ys.length * sep.length ≤ 16777216 ∧ Q (.str (txt (joinL sep ys))) H
theorem mt_join : MtR X "str.join" (rJoin X.K) := by
  intro pins s σ H x vs v us Q I rx rv h
  obtain ⟨sep, p, ys, rfl, rfl, hx, hz, q⟩ := h
  obtain ⟨t, rfl⟩ := rx
  obtain ⟨u, rfl, ru⟩ := rv.one
  cases ru
  obtain ⟨its, r, pl, hl⟩ := I.list hx
  rw [map_strV] at r
  refine join_list pl.isList (ys := ys.map txt) (by simpa using strsAre_of r) ?_ fun t' k => ⟨.str (txt (joinL sep ys)), H, I.tok _, ⟨t', by rw [join_txt]⟩, q⟩
  rw [List.map_map, List.length_map, txt_len]
  have : ((fun x => x.length) ∘ txt : List Nat → Nat) = fun l => l.length := by funext l; exact txt_len l
  rw [this]; exact hz
def Its (l : List Nat) : It := ⟨fun i _ => i < l.length, fun i H x H' => H' = H ∧ ∃ c, l[i]? = some c ∧ x = .str (txt [c]), fun i _ => l.length ≤ i⟩
theorem strTy (x : Str) : strIterType x = "str_ascii_iterator" ∨ strIterType x = "str_iterator" := by
  unfold strIterType
  split
  · exact .inl rfl
  · exact .inr rfl
theorem walks_str {prog : Program} {w : World} {A : Around} (hh : A.handled = none) (I : Addr) (x : Str) (t : Tok) : Walks prog w A I [I] [I] x.cps.size (SignAt x) (fun i h => h.IsStrIter I (strIterType x) x t i) := by
  rcases strTy x with e | e
  · rw [e]; exact Walks.strAscii hh I x t
  · rw [e]; exact Walks.strWide hh I x t
theorem turn_str {P : Program} {w : World} {K : PySem.W.Frag} {tg : Expr} (it : Addr) (l : List Nat) (t : Tok) : Turn P w K tg (Its l) [it] it (fun i h => h.IsStrIter it (strIterType (txt l)) (txt l) t i) where
  mem := by simp
  obj := fun i h st b hb => by
    have e : b = it := by simpa using hb
    subst e
    obtain ⟨o, e, c, d⟩ := st
    exact ⟨o, e, fun v z => by rw [d] at z; cases z⟩
  keep := fun i h h' st k => let ⟨o, ho, r⟩ := st; ⟨o, k it (by simp) o ho, r⟩
  item := by
    intro X hP hw hK hc i pins s σ H E I hf st hg
    subst hP hw hK
    obtain ⟨f0, f1, f2, f3, f4, f5⟩ := hf it (by simp)
    have W := walks_str (prog := X.prog) (w := X.w) (I.ok.hd hc) it (txt l) t
    have hg' : i < (txt l).cps.size := by have : i < l.length := hg; simpa [txt] using this
    refine W.item i s _ _ hg' st fun v h' tk hv st' kk => ?_
    obtain ⟨c, u, hc', rfl⟩ := hv
    have I1 : Inv X pins σ H { s with heap := h', toks := tk } := I.turned (fun b o hb e => kk b o (by simpa using hb) e) f0 f1 f3 f4 f5
    obtain ⟨o, e, cc, d⟩ := id st'
    have hn : ["enumerate", "zip", "dict_itemiterator", "dict_reverseitemiterator", "odict_iterator", "itertools.zip_longest", "itertools.pairwise"].contains (strIterType (txt l)) = false := by
      rcases strTy (txt l) with e | e <;> (rw [e]; decide)
    exact ⟨_, rfl, go_of (s := { s with heap := h', toks := tk }) e cc d hn ⟨.str (txt [c]), H, I1, ⟨u, rfl⟩, ⟨rfl, c, by simpa [txt] using hc', rfl⟩, st', fun b hb => (hf b hb).1⟩⟩
  done := by
    intro X hP hw hK hc i pins s σ H E I hf st hg
    subst hP hw hK
    obtain ⟨f0, f1, f2, f3, f4, f5⟩ := hf it (by simp)
    have hg' : l.length ≤ i := hg
    obtain ⟨o, e, cc, d⟩ := id st
    have fin : ∀ h', Heap.ExtBut it s.heap h' → (none : Option Value) = none ∧ Inv X pins σ H { s with heap := h' } := fun h' eb => ⟨rfl, I.turned (t' := s.toks) (fun b o hb e => eb b o hb e) f0 f1 f3 f4 f5⟩
    have hx : (txt l).cps[i]? = none := by simpa [txt] using hg'
    rcases strTy (txt l) with e | e
    · rw [e] at st
      exact wpAny_pyNext_ascii_end (I.ok.hd hc) st hx fin
    · rw [e] at st
      exact wpAny_pyNext_wide_end (I.ok.hd hc) st hx fin
  self := fun _ _ _ _ _ st h => by
    rcases strTy (txt l) with e | e
    · rw [e] at st; exact wpAny_pyIter_striter_ascii st h
    · rw [e] at st; exact wpAny_pyIter_striter_wide st h
def iStr (tl : TE) : TI := fun σ H R => tl σ H fun x H1 => ∃ l, x = .str (txt l) ∧ R (Its l) H1
theorem pi_str {tg l : Expr} {tl : TE} (hl : PE X l tl) : PI X tg l (iStr tl) := by
  intro pins s σ H R I h
  refine thn (hl pins s σ H _ I h) fun v s1 ⟨x, H1, I1, r1, q1⟩ => ?_
  obtain ⟨l', e, q⟩ := q1
  subst e
  obtain ⟨t, rfl⟩ := r1
  refine wpAny_pyIter_strU ?_
  refine ⟨s1.heap.objs.size, [s1.heap.objs.size], _, _, H1, rfl, I1.kept (t' := s1.toks) fun b o e => Heap.get?_push_of_some _ e, turn_str _ l' t, ⟨_, Heap.get?_push_size _ rfl, rfl, rfl⟩, fun b hb => ?_, q⟩
  have e : b = s1.heap.objs.size := by simpa using hb
  subst e
  exact I1.fpOk (Nat.le_refl _) (I1.hok.fresh (Nat.le_refl _))
theorem ltCps_txt (a b : List Nat) : ltCps a b = decide (a < b) := by
  first | exact ltCps_eq a b | (rw [ltCps_eq])
theorem rising_pw : ∀ (r : List (List Nat)) (p : List Nat), risingS (txt p) (r.map txt) = true → (p :: r).Pairwise (· ≤ ·)
  | [], p, _ => List.pairwise_singleton _ _
  | x :: r, p, h => by
    rw [List.map_cons] at h
    unfold risingS at h
    rw [Bool.and_eq_true, codes_txt, codes_txt, ltCps_txt] at h
    have h1 : p ≤ x := by
      have := h.1
      simp only [Bool.not_eq_true', decide_eq_false_iff_not] at this
      exact List.not_lt.mp this
    have ih := rising_pw r x h.2
    refine List.pairwise_cons.mpr ⟨fun y hy => ?_, ih⟩
    rcases List.mem_cons.mp hy with e | hy
    · rw [e]; exact h1
    · exact List.le_trans h1 ((List.pairwise_cons.mp ih).1 y hy)
theorem sortedS_pw (l : List (List Nat)) (h : sortedS (l.map txt) = true) : l.Pairwise (· ≤ ·) := by
  cases l with
  | nil => exact .nil
  | cons x r => exact rising_pw r x h
theorem call_sortedS : CallR X (.builtin "sorted") (fun xs H Q => ∃ p, ∃ ys : List (List Nat), xs = [.ref p] ∧ SqL X.K H p (ys.map strV) ∧ ys.length < 64 ∧ ∀ l, ∀ zs : List (List Nat), H l = none → zs.Perm ys → zs.Pairwise (· ≤ ·) → Q (.ref l) (upd H l (.lst (zs.map strV)))) := by
  intro pins s σ H xs us Q I r h
  obtain ⟨p, ys, rfl, hx, hz, q⟩ := h
  obtain ⟨u, rfl, ru⟩ := vals1 r
  cases ru
  obtain ⟨its, rv, pl, hl⟩ := I.list hx
  have hlen := rv.length
  rw [map_strV] at rv
  refine sorted_strs pl.isList (strsAre_of rv) (by rw [← hlen, List.length_map]; exact hz) fun out ss' a1 a2 a3 => ?_
  obtain ⟨e, he⟩ := sortedAll_at s.heap its out
  have ez : ss' = (ss'.map fun x => x.cps.toList).map txt := by
    rw [List.map_map]
    have : (txt ∘ fun (x : Str) => x.cps.toList) = id := by funext x; exact txt_codes x
    rw [this, List.map_id]
  have hp : (ss'.map fun x => x.cps.toList).Perm ys := by
    have := a2.map (fun x : Str => x.cps.toList)
    rw [List.map_map] at this
    have e2 : ((fun x : Str => x.cps.toList) ∘ txt) = id := by funext l; exact codes_txt l
    rw [e2, List.map_id] at this
    exact this
  rw [ez] at a3
  have hv : Vals ((ss'.map fun x => x.cps.toList).map strV) out.toList := by rw [map_strV, ← ez]; exact vals_strs a1
  refine ⟨.ref (s.heap.objs.size + 1), _, I.laid (t' := s.toks) (a := s.heap.objs.size + 1) (o := .lst ((ss'.map fun x => x.cps.toList).map strV)) (fun b o q => sortedAll_old q) (Nat.le_succ _) ⟨?_, out.toList, e, hv, by simpa [seqObj] using he⟩, rfl, q _ _ (I.hok.fresh (Nat.le_succ _)) hp (sortedS_pw _ a3)⟩
  have h64 := hp.length_eq
  rw [List.length_map, h64, sizeLine_eq]
  omega
end
end L2
set_option Elab.async false
set_option linter.all false
set_option maxRecDepth 100000
namespace L2
open PySem PySem.Spec PyProof.Rows PySem.Builtin.Str
section
variable {X : Cx}
structure CompOk (X : Cx) (scope : Scope) (x : Str) (fs : List (Str × Nat)) : Prop where
  kind : scope.kind = .function
  cell : ∀ y ∈ scope.names, y.2 ≠ .cell
  names : ∀ y ∈ scope.names, y.2 = .local → scope.names.lookup y.1 = some .local
  free : ∀ y ∈ scope.names, y.2 = .free → X.env.kindOf y.1 = some .cell ∨ X.env.kindOf y.1 = some .free
  hx : scope.names.lookup x = some .local
  nd : (x :: fs.map (·.1)).Nodup
  fs : ∀ f ∈ fs, X.N[f.2]? = some f.1 ∧ (X.env.kindOf f.1 = some .cell ∨ X.env.kindOf f.1 = some .free) ∧ scope.names.lookup f.1 = some .free
def compLook (names : List (Str × NameKind)) (outer : List (Str × NameKind)) (N : List Str) (x : Str) (fs : List (Str × Nat)) : Bool :=
  (names.all fun y => y.2 != .cell) && (names.all fun y => y.2 != .local || names.lookup y.1 == some .local) &&
  (names.all fun y => y.2 != .free || outer.lookup y.1 == some .cell || outer.lookup y.1 == some .free) && (names.lookup x == some .local) &&
  decide ((x :: fs.map (·.1)).Nodup) && (fs.all fun f => decide (N[f.2]? = some f.1) && (outer.lookup f.1 == some .cell || outer.lookup f.1 == some .free) && names.lookup f.1 == some .free)
theorem compOk_of {scope : Scope} {x : Str} {fs : List (Str × Nat)} (hk : scope.kind = .function) (h : compLook scope.names X.env.scope.names X.N x fs = true) : CompOk X scope x fs := by
  unfold compLook at h
  simp only [Bool.and_eq_true, List.all_eq_true, decide_eq_true_eq, Bool.or_eq_true, bne_iff_ne, beq_iff_eq] at h
  obtain ⟨⟨⟨⟨⟨h1, h2⟩, h3⟩, h4⟩, h5⟩, h6⟩ := h
  refine ⟨hk, fun y hy => h1 y hy, fun y hy e => ?_, fun y hy e => ?_, h4, h5, fun f hf => ?_⟩
  · rcases h2 y hy with z | z
    · exact absurd e z
    · exact z
  · rcases h3 y hy with (z | z) | z
    · exact absurd e z
    · exact .inl z
    · exact .inr z
  · obtain ⟨⟨a, b⟩, c⟩ := h6 f hf
    exact ⟨a, b, c⟩
theorem pe_compB {elt iter : Expr} {x : Str} {px pos : Pos} {ifs : List Expr} {scope : Scope} (fs : List (Str × Nat)) {wi : TI} {tt : TT} {te : TE} (hc : X.calm = true)
    (hi : PI X (.Name x px) iter wi)
    (hb : ∀ (cl : List (Str × Addr)) (C : Addr) (s₀ : Shared) (H₀ : Hp) (ex : List Addr), PTs (cxComp X scope cl C (x :: fs.map (·.1)) s₀ H₀ ex) ifs tt ∧ PE (cxComp X scope cl C (x :: fs.map (·.1)) s₀ H₀ ex) elt te)
    (hk : scope.kind = .function := by rfl) (hl : compLook scope.names X.env.scope.names X.N x fs = true := by kernel_rfl)
    (hs : ∀ x, foldedSetIterable iter X.env x = pure x := by intro _; rfl) :
    PE X (.ListComp elt [⟨.Name x px, iter, ifs, 0⟩] scope pos) (tComp wi (fs.map (·.2)) tt te) :=
  let O := compOk_of (X := X) hk hl
  pe_comp fs hc O.kind O.cell O.names O.free O.hx O.nd O.fs hi hb hs
theorem ps_compB {i : Nat} {y : Str} {py spos : Pos} {elt iter : Expr} {x : Str} {px pos : Pos} {ifs : List Expr} {scope : Scope} (fs : List (Str × Nat)) {wi : TI} {tt : TT} {te : TE}
    (hN : X.N.Nodup) (hy : X.N[i]? = some y) (hyl : X.env.scope.names.lookup y = some .local) (hc : X.calm = true)
    (hi : PI X (.Name x px) iter wi)
    (hb : ∀ (cl : List (Str × Addr)) (C : Addr) (s₀ : Shared) (H₀ : Hp) (ex : List Addr), PTs (cxComp X scope cl C (x :: fs.map (·.1)) s₀ H₀ ex) ifs tt ∧ PE (cxComp X scope cl C (x :: fs.map (·.1)) s₀ H₀ ex) elt te)
    (hk : scope.kind = .function := by rfl) (hl : compLook scope.names X.env.scope.names X.N x fs = true := by kernel_rfl)
    (hsw : swapsWith (.ListComp elt [⟨.Name x px, iter, ifs, 0⟩] scope pos) (some (.Name y py)) spos.line X.env = pure true := by rfl)
    (hs : ∀ x, foldedSetIterable iter X.env x = pure x := by intro _; rfl) :
    PS X (.Assign [.Name y py] (.ListComp elt [⟨.Name x px, iter, ifs, 0⟩] scope pos) spos) (tCompSet i wi (fs.map (·.2)) tt te) :=
  let O := compOk_of (X := X) hk hl
  ps_comp fs hN hy hyl hc O.kind O.cell O.names O.free O.hx O.nd O.fs hi hb hsw hs
theorem comp_range {lo : Int} {n : Nat} {σ : St} {fs : List Nat} {tt : TT} {te : TE} {H : Hp} {Q : VK} (Pv : Nat → List V → Hp → Prop) (h0 : Pv 0 [] H) (hl : ∀ i ys H, i ≤ n → Pv i ys H → ys.length ≤ i) (hn : n ≤ sizeLine)
    (hs : ∀ i ys H, i < n → Pv i ys H → ∀ R : List V → Hp → Prop, (∀ ys' H', Pv (i + 1) ys' H' → R ys' H') → tt (some (.int (lo + i)) :: compSt fs σ) H fun b H2 => if b = true then te (some (.int (lo + i)) :: compSt fs σ) H2 fun y H3 => R (ys ++ [y]) H3 else R ys H2)
    (hd : ∀ ys H, Pv n ys H → ∀ p, H p = none → Q (.ref p) (upd H p (.lst ys))) :
    ∃ W : Nat → Nat → List V → Hp → Prop, (∃ m, W 0 m [] H) ∧ ∀ i m ys H, W i m ys H → ys.length ≤ sizeLine ∧
      (((Itr lo n).stop i H ∧ ∀ p, H p = none → Q (.ref p) (upd H p (.lst ys))) ∨
       ((Itr lo n).go i H ∧ ys.length < sizeLine ∧ ∀ x H', (Itr lo n).yld i H x H' → tt (some x :: compSt fs σ) H' fun b H2 => if b = true then te (some x :: compSt fs σ) H2 fun y H3 => ∃ m', m' < m ∧ W (i + 1) m' (ys ++ [y]) H3 else ∃ m', m' < m ∧ W (i + 1) m' ys H2)) := by
  refine ⟨fun i m ys H => m = n - i ∧ i ≤ n ∧ Pv i ys H, ⟨n, by simp, Nat.zero_le _, h0⟩, ?_⟩
  rintro i m ys H ⟨rfl, hi, p⟩
  have hle := hl i ys H hi p
  refine ⟨by omega, ?_⟩
  by_cases hlt : i < n
  · refine .inr ⟨hlt, by omega, fun x H' y => ?_⟩
    obtain ⟨e, y⟩ := y
    subst e y
    exact hs i ys _ hlt p (fun ys' H' => ∃ m', m' < n - i ∧ m' = n - (i + 1) ∧ i + 1 ≤ n ∧ Pv (i + 1) ys' H') fun ys' H' q => ⟨n - (i + 1), by omega, rfl, hlt, q⟩
  · have e : i = n := by omega
    subst e
    exact .inl ⟨Nat.le_refl _, hd ys H p⟩
theorem comp_str {l : List Nat} {σ : St} {fs : List Nat} {tt : TT} {te : TE} {H : Hp} {Q : VK} (Pv : Nat → List V → Hp → Prop) (h0 : Pv 0 [] H) (hl : ∀ i ys H, i ≤ l.length → Pv i ys H → ys.length ≤ i) (hn : l.length ≤ sizeLine)
    (hs : ∀ i c ys H, l[i]? = some c → Pv i ys H → ∀ R : List V → Hp → Prop, (∀ ys' H', Pv (i + 1) ys' H' → R ys' H') → tt (some (.str (txt [c])) :: compSt fs σ) H fun b H2 => if b = true then te (some (.str (txt [c])) :: compSt fs σ) H2 fun y H3 => R (ys ++ [y]) H3 else R ys H2)
    (hd : ∀ ys H, Pv l.length ys H → ∀ p, H p = none → Q (.ref p) (upd H p (.lst ys))) :
    ∃ W : Nat → Nat → List V → Hp → Prop, (∃ m, W 0 m [] H) ∧ ∀ i m ys H, W i m ys H → ys.length ≤ sizeLine ∧
      (((Its l).stop i H ∧ ∀ p, H p = none → Q (.ref p) (upd H p (.lst ys))) ∨
       ((Its l).go i H ∧ ys.length < sizeLine ∧ ∀ x H', (Its l).yld i H x H' → tt (some x :: compSt fs σ) H' fun b H2 => if b = true then te (some x :: compSt fs σ) H2 fun y H3 => ∃ m', m' < m ∧ W (i + 1) m' (ys ++ [y]) H3 else ∃ m', m' < m ∧ W (i + 1) m' ys H2)) := by
  refine ⟨fun i m ys H => m = l.length - i ∧ i ≤ l.length ∧ Pv i ys H, ⟨l.length, by simp, Nat.zero_le _, h0⟩, ?_⟩
  rintro i m ys H ⟨rfl, hi, p⟩
  have hle := hl i ys H hi p
  refine ⟨by omega, ?_⟩
  by_cases hlt : i < l.length
  · refine .inr ⟨hlt, by omega, fun x H' y => ?_⟩
    obtain ⟨e, c, hc, y⟩ := y
    subst e y
    exact hs i c ys _ hc p (fun ys' H' => ∃ m', m' < l.length - i ∧ m' = l.length - (i + 1) ∧ i + 1 ≤ l.length ∧ Pv (i + 1) ys' H') fun ys' H' q => ⟨l.length - (i + 1), by omega, rfl, hlt, q⟩
  · have e : i = l.length := by omega
    subst e
    exact .inl ⟨Nat.le_refl _, hd ys H p⟩
theorem pe_txt {x : Str} {l : List Nat} {j pos} (h : x = txt l) : PE X (.Constant (.str x) j pos) (tC (.str (txt l))) := by subst h; exact pe_str
end
def ABC : List Nat := (List.range 26).map (97 + ·)
theorem small_eq : ("abcdefghijklmnopqrstuvwxyz" : Str) = txt ABC := by decide +kernel
theorem abc_len : ABC.length = 26 := by decide
theorem abc_at {i : Nat} (h : i < 26) : ABC[i]? = some (97 + i) := by
  unfold ABC
  rw [List.getElem?_map, List.getElem?_range h]; rfl
end L2
set_option Elab.async false
set_option linter.all false
set_option maxRecDepth 100000
namespace L2
open PySem PySem.Spec PyProof.Rows
abbrev rAddI : R2 := rI0 fun i j => .int (i + j)
abbrev rSubI : R2 := rI0 fun i j => .int (i - j)
abbrev rDivI : R2 := rI CDiv fun i j => .int (i / j)
abbrev rModI : R2 := rI (fun _ j => 0 < j) fun i j => .int (i % j)
abbrev rNegI : V → Hp → VK → Prop := rU fun i => .int (-i)
abbrev rLtI : R2 := rI0 fun i j => .bl (decide (i < j))
abbrev rGtI : R2 := rI0 fun i j => .bl (decide (j < i))
abbrev rGeI : R2 := rI0 fun i j => .bl (decide (j ≤ i))
def CMulB (i j : Int) : Prop := CMul i j ∨ (Builtin.Int.intBits i ≤ 2 ^ 20 ∧ Builtin.Int.intBits j ≤ 2 ^ 20)
theorem CMulB.l {i j : Int} (h1 : -(2 ^ 64) < i) (h2 : i < 2 ^ 64) : CMulB i j := .inl (.inl ⟨h1, h2⟩)
theorem CMulB.r {i j : Int} (h1 : -(2 ^ 64) < j) (h2 : j < 2 ^ 64) : CMulB i j := .inl (.inr ⟨h1, h2⟩)
abbrev rMulI : R2 := rI CMulB fun i j => .int (i * j)
abbrev rAddS : R2 := fun x y H Q => ∃ i j, x = .str (txt i) ∧ y = .str (txt j) ∧ i.length + j.length ≤ sizeLine ∧ Q (.str (txt (i ++ j))) H
abbrev rIxStr : R2 := fun x y H Q => ∃ (l : List Nat) (i : Nat) (c : Nat), x = .str (txt l) ∧ y = .int i ∧ l.length ≤ sizeLine ∧ l[i]? = some c ∧ Q (.str (txt [c])) H
abbrev rLtS : R2 := fun x y H Q => ∃ i j, x = .str (txt i) ∧ y = .str (txt j) ∧ Q (.bl (decide (i < j))) H
abbrev rGtS : R2 := fun x y H Q => ∃ i j, x = .str (txt i) ∧ y = .str (txt j) ∧ Q (.bl (decide (j < i))) H
abbrev rGeS : R2 := fun x y H Q => ∃ i j, x = .str (txt i) ∧ y = .str (txt j) ∧ Q (.bl (!decide (i < j))) H
abbrev rLenS : List V → Hp → VK → Prop := fun xs H Q => ∃ z, xs = [.str (txt z)] ∧ z.length ≤ sizeLine ∧ Q (.int z.length) H
abbrev rLenL (K : PySem.W.Frag) : List V → Hp → VK → Prop := fun xs H Q => ∃ p ys, xs = [.ref p] ∧ (SqL K H p ys ∨ SqT K H p ys) ∧ Q (.int ys.length) H
abbrev rMin2 : List V → Hp → VK → Prop := fun xs H Q => ∃ i j, xs = [.int i, .int j] ∧ Q (.int (if j < i then j else i)) H
abbrev rListOf (K : PySem.W.Frag) : List V → Hp → VK → Prop := fun xs H Q => ∃ p ys, xs = [.ref p] ∧ (SqL K H p ys ∨ SqT K H p ys) ∧ ∀ l, H l = none → Q (.ref l) (upd H l (.lst ys))
abbrev rSortedS (K : PySem.W.Frag) : List V → Hp → VK → Prop := fun xs H Q => ∃ p, ∃ ys : List (List Nat), xs = [.ref p] ∧ SqL K H p (ys.map strV) ∧ ys.length < 64 ∧ ∀ l, ∀ zs : List (List Nat), H l = none → zs.Perm ys → zs.Pairwise (· ≤ ·) → Q (.ref l) (upd H l (.lst (zs.map strV)))
section
variable {X : Cx}
theorem op_mulB : OpR X (binaryOp .Mult) rMulI := opI fun _ _ _ _ _ _ _ hc q => mul_int q (by
  rcases hc with h | h
  · exact h.ok
  · exact IntMulOk.of_bits h.1 h.2)
theorem pe_gstr {x y : Str} {l : List Nat} {pos : Pos} (hg : Gl X x) (hm : ∃ t, X.mg x = some (.str y t)) (e : y = txt l) (hd : (x == ("__debug__" : Str)) = false := by decide) : PE X (.Name x pos) (tC (.str (txt l))) := by
  obtain ⟨t, hm⟩ := hm
  subst e
  exact pe_glob hg hm ⟨t, rfl⟩ hd
end
theorem SqL.up {K : PySem.W.Frag} {H : Hp} {a p : Addr} {xs : List V} {o : HO} (h : SqL K H a xs) (hp : H p = none) : SqL K (upd H p o) a xs := by
  rcases h with (h | ⟨q, h⟩) | h
  · exact .inl (.inl (by rw [upd_ne (ne_of_none h hp)]; exact h))
  · exact .inl (.inr ⟨q, by rw [upd_ne (ne_of_none h hp)]; exact h⟩)
  · exact .inr h
theorem SqL.here {K : PySem.W.Frag} {H : Hp} {p : Addr} {xs : List V} : SqL K (upd H p (.lst xs)) p xs := .inl (.inl upd_same)
theorem SqT.here {K : PySem.W.Frag} {H : Hp} {p : Addr} {xs : List V} : SqT K (upd H p (.tup xs)) p xs := .inl (.inl upd_same)
theorem Same.new {H H' : Hp} {p : Addr} {o : HO} (s : Same H H') (hp : H' p = none) : Same H (upd H' p o) := fun b q e => by
  have := s b q e
  rw [upd_ne (ne_of_none this hp)]; exact this
theorem Same.up (H : Hp) {p : Addr} {o : HO} (hp : H p = none) : Same H (upd H p o) := (Same.refl H).new hp
theorem atI_int {α : Type} {xs : List α} {i : Int} {v : α} (h0 : 0 ≤ i) (h : xs[i.toNat]? = some v) : atI xs i = some v := by
  obtain ⟨n, rfl⟩ := Int.eq_ofNat_of_zero_le h0
  exact atI_nat (by simpa using h)
end L2
set_option Elab.async false
set_option linter.all false
set_option maxRecDepth 100000
namespace L2
open PySem PySem.Spec PyProof.Rows
theorem for_r1 {ta : TA} {g : TG} {tb : TS} {D : Ends} {σ : St} {H : Hp} {j : Int} (ha : ∀ Q : List V → Hp → Prop, Q [.int j] H → ta σ H Q) (hlo : -(2 ^ 62) ≤ j) (hhi : j < 2 ^ 62)
    (Pv : Nat → St → Hp → Prop) (h0 : Pv 0 σ H) (hs : ∀ (i : Nat) σ H, (i : Int) < j → Pv i σ H → g (.int i) σ H fun σ2 H2 => tb { D with nx := Pv (i + 1), ct := Pv (i + 1), bk := D.nx } σ2 H2)
    (hd : ∀ σ H, Pv j.toNat σ H → D.nx σ H) : tFor (iRng1 ta) g tb D σ H := by
  refine ha _ ⟨j, rfl, hlo, hhi, ?_⟩
  refine for_range (lo := 0) (n := j.toNat) Pv h0 (fun i σ H hi p => ?_) hd
  rw [Int.zero_add]
  exact hs i σ H (by omega) p
theorem for_r2 {ta : TA} {g : TG} {tb : TS} {D : Ends} {σ : St} {H : Hp} {l j : Int} (ha : ∀ Q : List V → Hp → Prop, Q [.int l, .int j] H → ta σ H Q) (hl0 : -(2 ^ 62) ≤ l) (hl1 : l < 2 ^ 62) (hlo : -(2 ^ 62) ≤ j) (hhi : j < 2 ^ 62)
    (Pv : Nat → St → Hp → Prop) (h0 : Pv 0 σ H) (hs : ∀ (i : Nat) σ H, l + (i : Int) < j → Pv i σ H → g (.int (l + i)) σ H fun σ2 H2 => tb { D with nx := Pv (i + 1), ct := Pv (i + 1), bk := D.nx } σ2 H2)
    (hd : ∀ σ H, Pv (j - l).toNat σ H → D.nx σ H) : tFor (iRng2 ta) g tb D σ H := by
  refine ha _ ⟨l, j, rfl, ⟨hl0, hl1, hlo, hhi⟩, ?_⟩
  exact for_range (lo := l) (n := (j - l).toNat) Pv h0 (fun i σ H hi p => hs i σ H (by omega) p) hd
theorem for_l {K : PySem.W.Frag} {tl : TE} {g : TG} {tb : TS} {D : Ends} {σ : St} {H : Hp} {a : Addr} {xs : List V} (ha : ∀ Q : VK, Q (.ref a) H → tl σ H Q) (hx : SqL K H a xs)
    (Pv : Nat → St → Hp → Prop) (h0 : Pv 0 σ H) (hl : ∀ i σ H, i ≤ xs.length → Pv i σ H → SqL K H a xs)
    (hs : ∀ i x σ H, xs[i]? = some x → Pv i σ H → g x σ H fun σ2 H2 => tb { D with nx := Pv (i + 1), ct := Pv (i + 1), bk := D.nx } σ2 H2) (hd : ∀ σ H, Pv xs.length σ H → D.nx σ H) :
    tFor (iList K tl) g tb D σ H := ha _ ⟨a, rfl, ⟨xs, hx⟩, for_list (K := K) Pv h0 hl hs hd⟩
theorem comp_r2 {ta : TA} {fs : List Nat} {tt : TT} {te : TE} {σ : St} {H : Hp} {Q : VK} {l j : Int} (ha : ∀ Q : List V → Hp → Prop, Q [.int l, .int j] H → ta σ H Q) (hl0 : -(2 ^ 62) ≤ l) (hl1 : l < 2 ^ 62) (hlo : -(2 ^ 62) ≤ j) (hhi : j < 2 ^ 62) (hn : (j - l).toNat ≤ sizeLine)
    (Pv : Nat → List V → Hp → Prop) (h0 : Pv 0 [] H) (hl : ∀ i ys H, i ≤ (j - l).toNat → Pv i ys H → ys.length ≤ i)
    (hs : ∀ (i : Nat) ys H, l + (i : Int) < j → Pv i ys H → ∀ R : List V → Hp → Prop, (∀ ys' H', Pv (i + 1) ys' H' → R ys' H') → tt (some (.int (l + i)) :: compSt fs σ) H fun b H2 => if b = true then te (some (.int (l + i)) :: compSt fs σ) H2 fun y H3 => R (ys ++ [y]) H3 else R ys H2)
    (hd : ∀ ys H, Pv (j - l).toNat ys H → ∀ p, H p = none → Q (.ref p) (upd H p (.lst ys))) : tComp (iRng2 ta) fs tt te σ H Q := by
  refine ha _ ⟨l, j, rfl, ⟨hl0, hl1, hlo, hhi⟩, ?_⟩
  exact comp_range (lo := l) (n := (j - l).toNat) Pv h0 hl hn (fun i ys H hi p => hs i ys H (by omega) p) hd
theorem comp_r1 {ta : TA} {fs : List Nat} {tt : TT} {te : TE} {σ : St} {H : Hp} {Q : VK} {j : Int} (ha : ∀ Q : List V → Hp → Prop, Q [.int j] H → ta σ H Q) (hlo : -(2 ^ 62) ≤ j) (hhi : j < 2 ^ 62) (hn : j.toNat ≤ sizeLine)
    (Pv : Nat → List V → Hp → Prop) (h0 : Pv 0 [] H) (hl : ∀ i ys H, i ≤ j.toNat → Pv i ys H → ys.length ≤ i)
    (hs : ∀ (i : Nat) ys H, (i : Int) < j → Pv i ys H → ∀ R : List V → Hp → Prop, (∀ ys' H', Pv (i + 1) ys' H' → R ys' H') → tt (some (.int i) :: compSt fs σ) H fun b H2 => if b = true then te (some (.int i) :: compSt fs σ) H2 fun y H3 => R (ys ++ [y]) H3 else R ys H2)
    (hd : ∀ ys H, Pv j.toNat ys H → ∀ p, H p = none → Q (.ref p) (upd H p (.lst ys))) : tComp (iRng1 ta) fs tt te σ H Q := by
  refine ha _ ⟨j, rfl, hlo, hhi, ?_⟩
  refine comp_range (lo := 0) (n := j.toNat) Pv h0 hl hn (fun i ys H hi p => ?_) hd
  rw [Int.zero_add]
  exact hs i ys H (by omega) p
theorem comp_s {tl : TE} {fs : List Nat} {tt : TT} {te : TE} {σ : St} {H : Hp} {Q : VK} {l : List Nat} (ha : ∀ Q : VK, Q (.str (txt l)) H → tl σ H Q) (hn : l.length ≤ sizeLine)
    (Pv : Nat → List V → Hp → Prop) (h0 : Pv 0 [] H) (hl : ∀ i ys H, i ≤ l.length → Pv i ys H → ys.length ≤ i)
    (hs : ∀ i c ys H, l[i]? = some c → Pv i ys H → ∀ R : List V → Hp → Prop, (∀ ys' H', Pv (i + 1) ys' H' → R ys' H') → tt (some (.str (txt [c])) :: compSt fs σ) H fun b H2 => if b = true then te (some (.str (txt [c])) :: compSt fs σ) H2 fun y H3 => R (ys ++ [y]) H3 else R ys H2)
    (hd : ∀ ys H, Pv l.length ys H → ∀ p, H p = none → Q (.ref p) (upd H p (.lst ys))) : tComp (iStr tl) fs tt te σ H Q := ha _ ⟨l, rfl, comp_str Pv h0 hl hn hs hd⟩
end L2
set_option Elab.async false
set_option linter.all false
set_option maxRecDepth 100000
namespace L2
open PySem PySem.Spec PyProof.Rows
theorem lenL_go {K : PySem.W.Frag} {H : Hp} {a : Addr} {xs : List V} {Q : VK} (hS : SqL K H a xs) (q : Q (.int xs.length) H) : rLenL K [.ref a] H Q := ⟨a, xs, rfl, .inl hS, q⟩
theorem lenI_go {K : PySem.W.Frag} {H : Hp} {a : Addr} {ns : List Int} {Q : VK} (hS : SqL K H a (ns.map V.int)) (q : Q (.int ns.length) H) : rLenL K [.ref a] H Q := ⟨a, _, rfl, .inl hS, by rw [List.length_map]; exact q⟩
theorem lenS_go {H : Hp} {l : List Nat} {Q : VK} (hz : l.length ≤ 100000) (q : Q (.int l.length) H) : rLenS [.str (txt l)] H Q := ⟨l, rfl, Nat.le_trans hz (by decide), q⟩
theorem ixI_go {K : PySem.W.Frag} {H : Hp} {a : Addr} {ns : List Int} {i : Int} {Q : VK} (hS : SqL K H a (ns.map V.int)) (h0 : 0 ≤ i) (h1 : i < ns.length) (q : ∀ z, z ∈ ns → ns[i.toNat]? = some z → Q (.int z) H) : rIxL K (.ref a) (.int i) H Q := by
  obtain ⟨n, rfl⟩ := Int.eq_ofNat_of_zero_le h0
  have hn : n < ns.length := by omega
  have e : ns[n]? = some ns[n] := List.getElem?_eq_getElem hn
  exact ⟨a, _, (n : Int), .int ns[n], rfl, rfl, hS, atI_nat (by rw [List.getElem?_map, e]; rfl), q _ (List.getElem_mem hn) (by simpa using e)⟩
theorem ixL_go {K : PySem.W.Frag} {H : Hp} {a : Addr} {xs : List V} {i : Int} {v : V} {Q : VK} (hS : SqL K H a xs) (h0 : 0 ≤ i) (h : xs[i.toNat]? = some v) (q : Q v H) : rIxL K (.ref a) (.int i) H Q :=
  ⟨a, xs, i, v, rfl, rfl, hS, atI_int h0 h, q⟩
theorem ixT_go {K : PySem.W.Frag} {H : Hp} {a : Addr} {xs : List V} {i : Int} {v : V} {Q : VK} (hS : SqT K H a xs) (h0 : 0 ≤ i) (h : xs[i.toNat]? = some v) (q : Q v H) : rIxT K (.ref a) (.int i) H Q :=
  ⟨a, xs, i, v, rfl, rfl, hS, atI_int h0 h, q⟩
theorem ixS_go {H : Hp} {l : List Nat} {i : Int} {c : Nat} {Q : VK} (hz : l.length ≤ 100000) (h0 : 0 ≤ i) (h : l[i.toNat]? = some c) (q : Q (.str (txt [c])) H) : rIxStr (.str (txt l)) (.int i) H Q := by
  obtain ⟨n, rfl⟩ := Int.eq_ofNat_of_zero_le h0
  exact ⟨l, n, c, rfl, rfl, Nat.le_trans hz (by decide), by simpa using h, q⟩
theorem ixABC_go {H : Hp} {i : Int} {Q : VK} (h0 : 0 ≤ i) (h1 : i < 26) (q : Q (.str (txt [97 + i.toNat])) H) : rIxStr (.str (txt ABC)) (.int i) H Q :=
  ixS_go (by rw [abc_len]; decide) h0 (abc_at (by omega)) q
theorem addS_go {H : Hp} {l m : List Nat} {Q : VK} (hz : l.length + m.length ≤ 100000) (q : Q (.str (txt (l ++ m))) H) : rAddS (.str (txt l)) (.str (txt m)) H Q := ⟨l, m, rfl, rfl, Nat.le_trans hz (by decide), q⟩
theorem abc_idx {c : Nat} (h0 : 97 ≤ c) (h1 : c < 123) : c ∈ ABC ∧ ABC.idxOf c = c - 97 := by
  have h : ∀ d : Fin 26, (97 + d.val) ∈ ABC ∧ ABC.idxOf (97 + d.val) = d.val := by decide
  have e := h ⟨c - 97, by omega⟩
  have e2 : 97 + (c - 97) = c := by omega
  simp only [e2] at e
  exact e
theorem idxABC_go {H : Hp} {c : Nat} {Q : VK} (h0 : 97 ≤ c) (h1 : c < 123) (q : Q (.int (c - 97 : Nat)) H) : rIndex (.str (txt ABC)) [.str (txt [c])] H Q :=
  ⟨ABC, c, rfl, rfl, (abc_idx h0 h1).1, by rw [(abc_idx h0 h1).2]; exact q⟩
theorem mulB_l {i j : Int} (h1 : -18446744073709551616 < i) (h2 : i < 18446744073709551616) : CMulB i j := .l (by omega) (by omega)
theorem mulB_r {i j : Int} (h1 : -18446744073709551616 < j) (h2 : j < 18446744073709551616) : CMulB i j := .r (by omega) (by omega)
theorem cdiv {i j : Int} (h1 : 0 < j) (h2 : j < 1073741824) : CDiv i j := ⟨h1, h2⟩
theorem cat_go {H : Hp} {a b : Addr} {xs ys : List V} {Q : VK} (h1 : H a = some (.lst xs)) (h2 : H b = some (.lst ys)) (hz : xs.length + ys.length ≤ 100000) (q : ∀ p, H p = none → Q (.ref p) (upd H p (.lst (xs ++ ys)))) : rCat (.ref a) (.ref b) H Q :=
  ⟨a, b, xs, ys, rfl, rfl, h1, h2, Nat.le_trans hz (by decide), q⟩
theorem append_go {H : Hp} {l : Addr} {xs : List V} {y : V} {Q : VK} (h : H l = some (.lst xs)) (hz : xs.length < 100000) (q : Q .non (upd H l (.lst (xs ++ [y])))) : rAppend (.ref l) [y] H Q :=
  ⟨l, xs, y, rfl, rfl, h, Nat.lt_of_lt_of_le hz (by decide), q⟩
theorem rstrip_go {H : Hp} {l m : List Nat} {Q : VK} (hz : l.length ≤ 100000) (q : Q (.str (txt (rstripL (fun c => m.contains c) l))) H) : rRstrip (.str (txt l)) [.str (txt m)] H Q := ⟨l, m, rfl, rfl, Nat.le_trans hz (by decide), q⟩
theorem slS_go {H : Hp} {l : List Nat} {lo hi : Option Int} {Q : VK} (hz : l.length ≤ 100000) (q : Q (.str (txt (cutL l lo hi))) H) : rSlS (.str (txt l)) lo hi H Q := ⟨l, rfl, Nat.le_trans hz (by decide), q⟩
theorem cutL_to {l : List Nat} {k : Int} (h0 : 0 ≤ k) (h1 : k ≤ l.length) : cutL l none (some k) = l.take k.toNat := by
  obtain ⟨n, rfl⟩ := Int.eq_ofNat_of_zero_le h0
  unfold cutL
  rw [HT.sIx_none, HT.sIx_nat, List.drop_zero, Nat.sub_zero]
  congr 1; simp; omega
theorem for_by {wi : TI} {g : TG} {tb : TS} {D : Ends} {σ : St} {H : Hp} (h : ∀ R : It → Hp → Prop, (∀ J H1, R J H1 = ∃ W : Nat → Nat → St → Hp → Prop, (∃ m, W 0 m σ H1) ∧ ∀ i m σ H, W i m σ H →
  (J.stop i H ∧ D.nx σ H) ∨ (J.go i H ∧ ∃ N : St → Hp → Prop, (∀ σ' H', N σ' H' → ∃ m', m' < m ∧ W (i + 1) m' σ' H') ∧ ∀ x H', J.yld i H x H' → g x σ H' fun σ2 H2 => tb { D with nx := N, ct := N, bk := D.nx } σ2 H2)) → wi σ H R) : tFor wi g tb D σ H := h _ fun _ _ => rfl
theorem while_of {c : TT} {tb : TS} {D : Ends} {σ : St} {H : Hp} (Pv : Nat → St → Hp → Prop) (m0 : Nat) (h0 : Pv m0 σ H)
    (hs : ∀ m σ H, Pv m σ H → ∀ R : Bool → Hp → Prop, (∀ H1, tb { D with nx := fun σ' H' => ∃ m', m' < m ∧ Pv m' σ' H', ct := fun σ' H' => ∃ m', m' < m ∧ Pv m' σ' H', bk := D.nx } σ H1 → R true H1) → (∀ H1, D.nx σ H1 → R false H1) → c σ H R) : tWhile c tb D σ H := by
  refine ⟨Pv, ⟨m0, h0⟩, fun m σ H p => ?_⟩
  refine hs m σ H p _ (fun H1 h => ?_) (fun H1 h => ?_)
  · exact ⟨_, fun σ' H' h => h, h⟩
  · exact h
end L2
set_option Elab.async false
set_option linter.all false
set_option maxRecDepth 100000
namespace L2
open PySem PySem.Spec PyProof.Rows
structure QE (X : Cx) (e : Expr) (t : TE) : Prop where p : PE X e t
structure QT (X : Cx) (e : Expr) (t : TT) : Prop where p : PT X e t
structure QW (X : Cx) (e : Expr) (t : TT) : Prop where p : PW X e t
structure QA (X : Cx) (es : List Expr) (t : TA) : Prop where p : PA X es t
structure QS (X : Cx) (st : Stmt) (t : TS) : Prop where p : PS X st t
structure QSs (X : Cx) (st : List Stmt) (t : TS) : Prop where p : PSs X st t
structure QG (X : Cx) (tg : Expr) (t : TG) : Prop where p : PG X tg t
structure QGs (X : Cx) (ts : List Expr) (t : TGs) : Prop where p : PGs X ts t
structure QI (X : Cx) (tg iter : Expr) (t : TI) : Prop where p : PI X tg iter t
structure QO (X : Cx) (e : Option Expr) (t : TO) : Prop where p : PO X e t
structure QTs (X : Cx) (ifs : List Expr) (t : TT) : Prop where p : PTs X ifs t
section
variable {X : Cx} {e o a b iter tg : Expr} {es : List Expr} {te to ta tb : TE} {t u : TA} {x : Str} {p pos pos' : Pos}
theorem kv (i : Nat) (hN : X.N[i]? = some x := by kernel_rfl) (hv : X.env.scope.names.lookup x = some .local := by kernel_rfl) (hd : (x == ("__debug__" : Str)) = false := by kernel_rfl)
    (hcd : (x == ("__classdict__" : Str)) = false := by kernel_rfl) : QE X (.Name x pos) (tVar i) := ⟨pe_var hN (.inl hv) hd hcd⟩
theorem kvc (i : Nat) (hN : X.N[i]? = some x := by kernel_rfl) (hv : X.env.scope.names.lookup x = some .cell := by kernel_rfl) (hd : (x == ("__debug__" : Str)) = false := by kernel_rfl)
    (hcd : (x == ("__classdict__" : Str)) = false := by kernel_rfl) : QE X (.Name x pos) (tVar i) := ⟨pe_var hN (.inr (.inl hv)) hd hcd⟩
theorem ke_int {i : Int} {j : Nat} : QE X (.Constant (.int i) j pos) (tC (.int i)) := ⟨pe_int⟩
theorem ke_bl {c : Bool} {j : Nat} : QE X (.Constant (.bool c) j pos) (tC (.bl c)) := ⟨pe_bl⟩
theorem ke_non {j : Nat} : QE X (.Constant .none j pos) (tC .non) := ⟨pe_non⟩
theorem ke_txt {y : Str} {l : List Nat} {j : Nat} (h : y = txt l := by kernel_rfl) : QE X (.Constant (.str y) j pos) (tC (.str (txt l))) := ⟨pe_txt h⟩
theorem ka_nil : QA X [] tNil := ⟨pa_nil⟩
theorem ka_cons (ha : QE X e te) (hr : QA X es t) (hs : starEach (e :: es) X.env = (false, eval e X.env) :: starEach es X.env := by kernel_rfl) : QA X (e :: es) (tCons te t) := ⟨pa_cons ha.p hr.p hs⟩
theorem ke_gstr {y : Str} {l : List Nat} (hm : ∃ t, X.mg x = some (.str y t)) (e : y = txt l) (hg : X.env.kindOf x = some .globalImplicit := by kernel_rfl) (hd : (x == ("__debug__" : Str)) = false := by kernel_rfl) : QE X (.Name x pos) (tC (.str (txt l))) := ⟨pe_gstr hg hm e hd⟩
theorem ke_call {CX : CXT} {k : Nat} {f : Addr} {fd : FuncData} {ps : List Str} {sp : Sp} {E : XK} (F : FnOk X.prog X.w X.K X.mg X.base CX k f fd ps sp) (hr : Room k X.A) (hm : X.mg x = some (.ref f)) (hk : PySem.W.keepIn X.K (.ref f) = true) (hb : Binds X.K fd ps []) (hx : Passes CX X E)
    (ha : QA X (e :: es) t) (hg : X.env.kindOf x = some .globalImplicit := by kernel_rfl) (hdb : (x == ("__debug__" : Str)) = false := by kernel_rfl) (he : starEach (e :: es) X.env = (false, eval e X.env) :: starEach es X.env := by kernel_rfl) (hpl : (backTo pos (starEach es X.env)).any (·.1) = false := by kernel_rfl) :
    QE X (.Call (.Name x p) (e :: es) [] pos) (tCall sp [] E t) := ⟨pe_call F hr hg hm hk hb .nil hx ha.p hdb he hpl⟩
theorem ke_callB {id : String} {r : List V → Hp → VK → Prop} (hc : CallR X (.builtin id) r) (hm : X.mg x = none) (hv : bootBuiltins x = some (.builtin id)) (ha : QA X (e :: es) t)
    (hg : X.env.kindOf x = some .globalImplicit := by kernel_rfl) (hn : decide (x = "__name__") = false := by kernel_rfl) (hdb : (x == ("__debug__" : Str)) = false := by kernel_rfl)
    (he : starEach (e :: es) X.env = (false, eval e X.env) :: starEach es X.env := by kernel_rfl) (hpl : (backTo pos (starEach es X.env)).any (·.1) = false := by kernel_rfl) :
    QE X (.Call (.Name x p) (e :: es) [] pos) (tCB r t) := ⟨pe_callB hc hg hm hv ha.p (of_decide_eq_false hn) hdb he hpl⟩
theorem ke_callTy {T : String} {r : List V → Hp → VK → Prop} (hc : CallR X (.type T) r) (hm : X.mg x = none) (hv : bootBuiltins x = some (.type T)) (ha : QA X (e :: es) t)
    (hg : X.env.kindOf x = some .globalImplicit := by kernel_rfl) (hn : decide (x = "__name__") = false := by kernel_rfl) (hdb : (x == ("__debug__" : Str)) = false := by kernel_rfl)
    (he : starEach (e :: es) X.env = (false, eval e X.env) :: starEach es X.env := by kernel_rfl) (hpl : (backTo pos (starEach es X.env)).any (·.1) = false := by kernel_rfl) :
    QE X (.Call (.Name x p) (e :: es) [] pos) (tCB r t) := ⟨pe_callTy hc hg hm hv ha.p (of_decide_eq_false hn) hdb he hpl⟩
theorem ke_op {op : Operator} {r : R2} (ho : OpR X (binaryOp op) r) (ha : QE X a ta) (hb : QE X b tb) : QE X (.BinOp a op b pos) (tOp r ta tb) := ⟨pe_op ho ha.p hb.p⟩
theorem ke_un {op : UnaryOp} {r : V → Hp → VK → Prop} (ho : UnR X (unaryOp op) r) (ha : QE X a ta) : QE X (.UnaryOp op a pos) (tUn r ta) := ⟨pe_un ho ha.p⟩
theorem ke_ifExp {c : Expr} {tc : TT} (hc : QT X c tc) (ha : QE X a ta) (hb : QE X b tb) : QE X (.IfExp c a b pos) (tIf tc ta tb) := ⟨pe_ifExp hc.p ha.p hb.p⟩
theorem ke_lst (h : QA X es t) : QE X (.List es pos) (tLst t) := ⟨pe_lst h.p⟩
theorem ke_tup {x1} (h : QA X es t) : QE X (.Tuple es x1 pos) (tTup t) := ⟨pe_tup h.p⟩
theorem ko_none : QO X none tNoPart := ⟨po_none⟩
theorem ko_some (h : QE X e te) : QO X (some e) (tPart te) := ⟨po_some h.p⟩
theorem ke_slice {p2 : Pos} {lo hi : Option Expr} {tl th : TO} {r : V → Option Int → Option Int → Hp → VK → Prop} (hr : SlR X r) (he : QE X e te) (hl : QO X lo tl) (hu : QO X hi th) : QE X (.Subscript e (.Slice lo hi none p2) pos) (tSl r te tl th) := ⟨pe_slice hr he.p hl.p hu.p⟩
theorem ke_ix {r : R2} (hr : IxR X r) (ha : QE X a ta) (hb : QE X b tb) (hs : ∀ o i, subscripted b false o i = operate [o, i] (getItem o i) := by intro _ _; kernel_rfl) : QE X (.Subscript a b pos) (tOp r ta tb) := ⟨pe_ix hr ha.p hb.p hs⟩
variable {name : Str} {apos cpos : Pos} {T id : String} {r : V → List V → Hp → VK → Prop}
theorem ke_bm (pa : PlainAttrs T) (slot : Slot T name id) (hty : typeOf (.builtin id) = pure (.type "method_descriptor")) (hm : MtR X id r) (ho : QE X o to) (ha : QA X (e :: es) t)
    (hbase : attributeBase o name X.env (eval o X.env) = eval o X.env := by kernel_rfl)
    (hfew : ((backTo cpos (starEach (e :: es) X.env)).all (fun x => !x.1) && (backToKw cpos (keywordEach [] X.env)).all (fun x => x.1.isSome)
      && decide ((e :: es).length + ([] : List Keyword).length + (if ([] : List Keyword).isEmpty then 0 else 1) < 30)) = true := by kernel_rfl)
    (hline : (apos.endLine == cpos.line) = true := by kernel_rfl) (hs : starEach (e :: es) X.env = (false, eval e X.env) :: starEach es X.env := by kernel_rfl) (hplain : (backTo cpos (starEach es X.env)).any (·.1) = false := by kernel_rfl) :
    QE X (.Call (.Attribute o name apos) (e :: es) [] cpos) (tBM X.K T r to t) := ⟨pe_bm pa slot hty hm ho.p ha.p hbase hfew hline hs hplain⟩
theorem kt_val (h : QE X e te) (he : ∀ whole, isTrue e X.env whole = (do let v ← whole; standAt e.pos; holding [v] (truthy v)) := by intro _; kernel_rfl) : QT X e (tB te) := ⟨pt_val h.p he⟩
theorem kt_cmp {op : CmpOp} {r : R2} (ho : OpR X (compareOp op) r) (ha : QE X a ta) (hb : QE X b tb) (hm : behindInMarks op b = false := by kernel_rfl) : QT X (.Compare a [op] [b] pos) (tTest (tOp r ta tb)) := ⟨pt_cmpR ho ha.p hb.p hm⟩
theorem ke_cmp {op : CmpOp} {r : R2} (ho : OpR X (compareOp op) r) (ha : QE X a ta) (hb : QE X b tb) (hm : behindInMarks op b = false := by kernel_rfl) : QE X (.Compare a [op] [b] pos) (tOp r ta tb) := ⟨pe_cmpR ho ha.p hb.p hm⟩
theorem kt_isN {j : Nat} {pos'' : Pos} (ha : QE X e te) : QT X (.Compare e [.Is] [.Constant .none j pos''] pos) (tB (tIsN te)) := ⟨pt_cmp (pc_isN ha.p) (nobehind _ (by decide) (by decide))⟩
theorem kt_notN {j : Nat} {pos'' : Pos} (ha : QE X e te) : QT X (.Compare e [.IsNot] [.Constant .none j pos''] pos) (tB (tNotN te)) := ⟨pt_cmp (pc_notN ha.p) (nobehind _ (by decide) (by decide))⟩
variable {tA tB' : TT} {rest : List Expr}
theorem kt_not (ha : QT X a tA) : QT X (.UnaryOp .Not a pos) (tNot tA) := ⟨pt_not ha.p⟩
theorem kw_and1 (ha : QT X a tA) : QW X (.BoolOp .And [a] pos) tA := ⟨pw_and1 ha.p⟩
theorem kw_or1 (ha : QT X a tA) : QW X (.BoolOp .Or [a] pos) tA := ⟨pw_or1 ha.p⟩
theorem kw_and (ha : QT X a tA) (hb : QW X (.BoolOp .And (b :: rest) pos) tB') : QW X (.BoolOp .And (a :: b :: rest) pos) (tAnd tA tB') := ⟨pw_and ha.p hb.p⟩
theorem kw_or (ha : QT X a tA) (hb : QW X (.BoolOp .Or (b :: rest) pos) tB') : QW X (.BoolOp .Or (a :: b :: rest) pos) (tOr tA tB') := ⟨pw_or ha.p hb.p⟩
theorem kt_w (h : QW X e tA) : QT X e tA := ⟨h.p.pt⟩
theorem kts_nil : QTs X [] tYes := ⟨pts_nil⟩
theorem kts_one {c : Expr} {t : TT} (h : QT X c t) : QTs X [c] t := ⟨pts_one h.p⟩
theorem ki_range1 {ta : TA} (hm : X.mg "range" = none) (ha : QA X [a] ta) (hg : X.env.kindOf "range" = some .globalImplicit := by kernel_rfl) (hs : starEach [a] X.env = [(false, eval a X.env)] := by kernel_rfl) : QI X tg (.Call (.Name "range" p) [a] [] pos) (iRng1 ta) := ⟨pi_range1 hg hm ha.p hs⟩
theorem ki_range2 {ta : TA} (hm : X.mg "range" = none) (ha : QA X [a, b] ta) (hg : X.env.kindOf "range" = some .globalImplicit := by kernel_rfl) (hs : starEach [a, b] X.env = [(false, eval a X.env), (false, eval b X.env)] := by kernel_rfl) (hs2 : starEach [b] X.env = [(false, eval b X.env)] := by kernel_rfl) : QI X tg (.Call (.Name "range" p) [a, b] [] pos) (iRng2 ta) := ⟨pi_range2 hg hm ha.p hs hs2⟩
theorem ki_list {tl : TE} (hl : QE X a tl) : QI X tg a (iList X.K tl) := ⟨pi_list hl.p⟩
theorem ki_str {tl : TE} (hl : QE X a tl) : QI X tg a (iStr tl) := ⟨pi_str hl.p⟩
theorem ke_comp {elt : Expr} {px : Pos} {ifs : List Expr} {scope : Scope} (fs : List (Str × Nat)) {wi : TI} {tt : TT} {te : TE}
    (hi : QI X (.Name x px) iter wi)
    (hb : ∀ (cl : List (Str × Addr)) (C : Addr) (s₀ : Shared) (H₀ : Hp) (ex : List Addr), QTs (cxComp X scope cl C (x :: fs.map (·.1)) s₀ H₀ ex) ifs tt ∧ QE (cxComp X scope cl C (x :: fs.map (·.1)) s₀ H₀ ex) elt te)
    (hc : X.calm = true := by kernel_rfl) (hk : scope.kind = .function := by kernel_rfl) (hl : compLook scope.names X.env.scope.names X.N x fs = true := by kernel_rfl)
    (hs : ∀ x, foldedSetIterable iter X.env x = pure x := by intro _; kernel_rfl) :
    QE X (.ListComp elt [⟨.Name x px, iter, ifs, 0⟩] scope pos) (tComp wi (fs.map (·.2)) tt te) := ⟨pe_compB fs hc hi.p (fun cl C s₀ H₀ ex => ⟨(hb cl C s₀ H₀ ex).1.p, (hb cl C s₀ H₀ ex).2.p⟩) hk hl hs⟩
theorem ks_comp {i : Nat} {y : Str} {py spos : Pos} {elt : Expr} {px : Pos} {ifs : List Expr} {scope : Scope} (fs : List (Str × Nat)) {wi : TI} {tt : TT} {te : TE}
    (hN : X.N.Nodup) (hi : QI X (.Name x px) iter wi)
    (hb : ∀ (cl : List (Str × Addr)) (C : Addr) (s₀ : Shared) (H₀ : Hp) (ex : List Addr), QTs (cxComp X scope cl C (x :: fs.map (·.1)) s₀ H₀ ex) ifs tt ∧ QE (cxComp X scope cl C (x :: fs.map (·.1)) s₀ H₀ ex) elt te)
    (hy : X.N[i]? = some y := by kernel_rfl) (hyl : X.env.scope.names.lookup y = some .local := by kernel_rfl) (hc : X.calm = true := by kernel_rfl)
    (hk : scope.kind = .function := by kernel_rfl) (hl : compLook scope.names X.env.scope.names X.N x fs = true := by kernel_rfl)
    (hsw : swapsWith (.ListComp elt [⟨.Name x px, iter, ifs, 0⟩] scope pos) (some (.Name y py)) spos.line X.env = pure true := by kernel_rfl)
    (hs : ∀ x, foldedSetIterable iter X.env x = pure x := by intro _; kernel_rfl) :
    QS X (.Assign [.Name y py] (.ListComp elt [⟨.Name x px, iter, ifs, 0⟩] scope pos) spos) (tCompSet i wi (fs.map (·.2)) tt te) := ⟨ps_compB fs hN hy hyl hc hi.p (fun cl C s₀ H₀ ex => ⟨(hb cl C s₀ H₀ ex).1.p, (hb cl C s₀ H₀ ex).2.p⟩) hk hl hsw hs⟩
variable {st : Stmt} {sts : List Stmt} {t1 t2 : TS}
theorem kss_nil : QSs X [] tNext := ⟨pss_nil⟩
theorem kss_cons (h1 : QS X st t1) (h2 : QSs X sts t2) : QSs X (st :: sts) (tSeq t1 t2) := ⟨pss_cons h1.p h2.p⟩
theorem kss_one (h1 : QS X st t1) : QSs X [st] t1 := ⟨pss_one h1.p⟩
theorem ks_set {i : Nat} (hN : X.N.Nodup) (he : QE X e te) (hi : X.N[i]? = some x := by kernel_rfl) (hx : X.env.scope.names.lookup x = some .local := by kernel_rfl) (hs : swapsWith e (some (.Name x pos')) pos.line X.env = pure false := by kernel_rfl) :
    QS X (.Assign [.Name x pos'] e pos) (tAsg te (gName i)) := ⟨ps_set hN hi (.inl hx) he.p hs (.inr hx)⟩
theorem ks_setc {i : Nat} (hN : X.N.Nodup) (he : QE X e te) (hi : X.N[i]? = some x := by kernel_rfl) (hx : X.env.scope.names.lookup x = some .cell := by kernel_rfl) (hs : swapsWith e (some (.Name x pos')) pos.line X.env = pure false := by kernel_rfl) (hf : X.fn x = true := by kernel_rfl) :
    QS X (.Assign [.Name x pos'] e pos) (tAsg te (gName i)) := ⟨ps_set hN hi (.inr hx) he.p hs (.inl hf)⟩
theorem ks_expr (he : QE X e te) (hs : swapsWith e none pos.line X.env = pure false := by kernel_rfl) : QS X (.Expr e pos) (tDrop te) := ⟨ps_expr he.p hs⟩
theorem ks_ret (he : QE X e te) : QS X (.Return (some e) pos) (tRet te) := ⟨ps_ret he.p⟩
theorem ks_if {c : Expr} {l1 l2 : List Stmt} {tc : TT} (hc : QT X c tc) (ha : QSs X l1 t1) (hb : QSs X l2 t2) : QS X (.If c l1 l2 pos) (tIfS tc t1 t2) := ⟨ps_if hc.p ha.p hb.p⟩
theorem ks_while {c : Expr} {body : List Stmt} {tc : TT} (hc : QT X c tc) (hb : QSs X body t1) (hp : PassesOwn (model X.prog X.w) X.A X.env X.xe := by exact PassesOwn.never) : QS X (.While c body [] pos) (tWhile tc t1) := ⟨ps_while hp hc.p hb.p⟩
theorem kg_name {i : Nat} (hN : X.N.Nodup) (hi : X.N[i]? = some x := by kernel_rfl) (hx : X.env.scope.names.lookup x = some .local := by kernel_rfl) : QG X (.Name x pos) (gName i) := ⟨pg_name hN hi (.inl hx) (.inr hx)⟩
theorem ks_for {body : List Stmt} {wi : TI} {g : TG} {tb : TS} (hi : QI X tg iter wi) (hg : QG X tg g) (hb : QSs X body tb) (hp : PassesOwn (model X.prog X.w) X.A X.env X.xe := by exact PassesOwn.never) (hc : X.calm = true := by kernel_rfl) (hs : ∀ x, foldedSetIterable iter X.env x = pure x := by intro _; kernel_rfl) : QS X (.For tg iter body [] pos) (tFor wi g tb) := ⟨ps_for hp hc hi.p hg.p hb.p hs⟩
theorem kgs_nil : QGs X [] gNil := ⟨pgs_nil⟩
theorem kgs_cons {t : TG} {u : TGs} (h1 : QG X e t) (h2 : QGs X es u) (hs : (assignEach (e :: es) X.env).map (·.2) = assign e X.env :: (assignEach es X.env).map (·.2) := by kernel_rfl) : QGs X (e :: es) (gCons t u) := ⟨pgs_cons h1.p h2.p hs⟩
theorem kg_tup {k : Nat} {t : TGs} {n : Nat} (h : QGs X es t) (hc : X.calm = true := by kernel_rfl) (hn : (assignEach es X.env).length = n := by kernel_rfl) (hst : (assignEach es X.env).findIdx? (·.1) = none := by kernel_rfl) : QG X (.Tuple es k pos) (gTup X.K n t) := ⟨pg_tup hc h.p hn hst⟩
end
theorem Fun.okQ {P : Program} {w : World} {K : PySem.W.Frag} {mg : Str → Option Value} {base : Heap} {x qual : Str} {st : Stmt} {f : Addr} {fd : FuncData} {N ps : List Str} {k : Nat} {sp : Sp} (F : Fun K x qual st f fd) (S : FnScope N ps (defScope st)) {rd : TS} (len : ∀ vs H Q E, sp vs H Q E → vs.length = ps.length)
    (hb : ∀ (cdv : Value) (A : Around) (outer : List Env) (s : Shared) (H : Hp) (E : XK), Room k (A.deeper (envOfC qual (defScope st) s.heap.objs.size f cdv)) → QSs (cxOf CX0 P w K mg base N qual (defScope st) f cdv A outer s H E).nox (defBody st) rd)
    (hq : ∀ (vs : List V) (H : Hp) (Q : VK) (E : XK), sp vs H Q E → rd { nx := fun _ H' => Q .non H', rt := Q } (start N vs) H) : FnOk P w K mg base CX0 (k + 1) f fd ps sp :=
  F.ok S len fun cdv A outer s H vs Q E hr h => ⟨rd, (hb cdv A outer s H E hr).p, hq vs H Q E h⟩
end L2
set_option Elab.async false
set_option linter.all false
set_option maxRecDepth 100000
namespace L2
open PySem PySem.Spec PyProof.Rows
section
variable {X : Cx}
def isTy (t T : String) : Option Bool := if (Value.type t == Value.type T) = true then some true else if PySem.W.kitMeta T = true then (fastBuiltinMro t).map (·.contains (.type T)) else none
def rIsi (K : PySem.W.Frag) (T : String) : V → Hp → VK → Prop := fun x H Q => ∃ t b, TyOf K H x (.type t) ∧ isTy t T = some b ∧ Q (.bl b) H
def tIsi (K : PySem.W.Frag) (T : String) (ta : TE) : TE := fun σ H Q => ta σ H fun x H1 => rIsi K T x H1 Q
end
end L2
set_option Elab.async false
set_option linter.all false
set_option maxRecDepth 100000
namespace L2
open PySem PySem.Spec PyProof.Rows
structure UnB (fs : List Addr) (H H' : Hp) (h B h' : Heap) : Prop where
  keep : ∀ b o, h.get? b = some o → H b = none → b ∉ fs → B.get? b = some o
  slot : ∀ b o, h.get? b = some o → H b = none → b ∈ fs → ∃ sl, h'.get? b = some { o with slots := sl }
  free : ∀ b o, h.get? b = some o → H b = none → H' b = none
  there : ∀ b o, h.get? b = some o → b ∉ fs → ∃ o', B.get? b = some o'
  tups : ∀ b xs, H b = some (.tup xs) → H' b = some (.tup xs)
  frzs : ∀ b o u, H b = some (.frz o u) → H' b = some (.frz o u)
  tbls : ∀ b ps, H b = some (.tbl ps) → ∃ more, H' b = some (.tbl (ps ++ more))
def CX1 (P : Program) (w : World) : CXT := fun outer H s E e s' => ∃ (ea : Addr) (cls : Value) (t : Addr) (H' : Hp) (B : Heap), e = .ref ea ∧ s'.os = s.os ∧ AllBare s'.gens ∧
  Heap.FlyingW B outer ea cls (.ref t) s'.heap ∧ HOk P w H' B ∧ UnB (frs outer) H H' s.heap B s'.heap ∧ E cls none H'
theorem frs_none {base h : Heap} {l : List Env} (f : h.FunFrames base l) {b : Addr} (hb : b ∈ frs l) : base.get? b = none ∧ ∃ o, h.get? b = some o ∧ ∀ vs, o.data ≠ .fields vs := f.mem hb
section
variable {P : Program} {w : World} {K : PySem.W.Frag} {mg : Str → Option Value} {base : Heap} {N : List Str} {qual : Str} {scope : Scope} {f : Addr} {cd : Value} {A : Around} {outer : List Env} {s : Shared} {H : Hp} {E : XK}
theorem made_def {pins : List (Addr × Obj)} {σ : St} {H2 : Hp} {s2 : Shared} {h' : Heap} {e : Addr} {cls : Value} {vs : List Value} (I : Inv (cxOf (CX1 P w) P w K mg base N qual scope f cd A outer s H E) pins σ H2 s2)
    (hx : Heap.MadeExcOf s2.heap h' e cls vs) (q : E cls none H2) : (cxOf (CX1 P w) P w K mg base N qual scope f cd A outer s H E).xe (.ref e) { s2 with heap := h' } := by
  generalize eF : frs (cxOf (CX1 P w) P w K mg base N qual scope f cd A outer s H E).stack = F
  have hin : ∀ env ∈ (cxOf (CX1 P w) P w K mg base N qual scope f cd A outer s H E).stack, ∀ b, env.frame = some b → b ∈ F := fun env he b hb => by rw [← eF]; exact List.mem_filterMap.mpr ⟨env, he, hb⟩
  have neL : ∀ b o, s.heap.get? b = some o → b ≠ s.heap.objs.size := fun b o e => Nat.ne_of_lt (Heap.lt_size e)
  have nF : ∀ b o, s.heap.get? b = some o → b ∉ frs outer → b ∉ F := fun b o e hb z => by
    rw [← eF] at z
    rcases List.mem_cons.mp (I.stkSub b z) with y | y
    · exact neL b o e y
    · exact hb y
  have gB : ∀ b o, s2.heap.get? b = some o → b ∉ F → (PySem.W.hideAll s2.heap F).get? b = some o := fun b o e hb => PySem.W.hideAll_get _ e hb
  show wpAny _ _ (leaving _ (.ref e)) _ _ _
  refine wpAny_leaves_madeW (base := PySem.W.hideAll s2.heap F) (h := s2.heap) I.ok.frames rfl (fun b o q => PySem.W.of_hideAll _ q) (PySem.W.funFrames_hide I.stack hin) hx fun h2 t hfl htup hn hsm => ?_
  refine ⟨e, cls, t, H2, PySem.W.hideAll s2.heap F, rfl, I.os, I.bare, hfl, fun a o ea => (I.hok a o ea).stay (fun b u hb eu => gB b u eu fun z => ?_) (fun c q => q) (fun c xs q => q), ⟨fun b o eb n hb => ?_, fun b o eb n hb => ?_, fun b o eb n => ?_, fun b o eb hb => ?_, I.base.tups, I.base.frzs, I.base.tbls⟩, q⟩
  · have hf := I.stkFree b (by rw [eF]; exact z)
    rcases hb with rfl | hb
    · rw [hf] at ea; cases ea
    · rw [hf] at hb; cases hb
  · exact gB b o (I.base.keep b o eb n hb (List.not_mem_nil)) (nF b o eb hb)
  · obtain ⟨sl, e1⟩ := I.base.slot b o eb n hb (List.not_mem_nil)
    obtain ⟨_, o2, e2, d2⟩ := frs_none I.stack (List.mem_cons_of_mem _ hb : b ∈ s.heap.objs.size :: frs outer)
    rw [e1] at e2
    cases e2
    obtain ⟨sl', e3⟩ := hsm b _ (hx.keeps _ _ e1) d2
    exact ⟨sl', e3⟩
  · exact I.base.free b o eb n (List.not_mem_nil)
  · obtain ⟨o', e1⟩ := I.base.there b o eb (List.not_mem_nil)
    exact ⟨o', gB b o' e1 (nF b o eb hb)⟩
theorem pass_def : Passes (CX1 P w) (cxOf (CX1 P w) P w K mg base N qual scope f cd A outer s H E) E := by
  rintro pins σ H1 s1 e s2 I ⟨ea, cls, t, H2, B, rfl, hos, hg, hfl, hok, ub, q⟩
  have neL : ∀ b o, s.heap.get? b = some o → b ≠ s.heap.objs.size := fun b o e => Nat.ne_of_lt (Heap.lt_size e)
  have nF : ∀ b o, s.heap.get? b = some o → b ∉ frs outer → b ∉ frs (cxOf (CX1 P w) P w K mg base N qual scope f cd A outer s H E).stack := fun b o e hb z => by
    rcases List.mem_cons.mp (I.stkSub b z) with y | y
    · exact neL b o e y
    · exact hb y
  have yF : ∀ b, b ∈ frs outer → b ∈ frs (cxOf (CX1 P w) P w K mg base N qual scope f cd A outer s H E).stack := fun b hb => (List.mem_cons_of_mem _ hb : b ∈ s.heap.objs.size :: frs outer)
  show wpAny _ _ (leaving _ (.ref ea)) _ _ _
  refine wpAny_leaves_onW I.ok.frames rfl hfl fun h3 hfl3 hsm => ?_
  refine ⟨ea, cls, t, H2, B, rfl, hos.trans I.os, hg, hfl3, hok, ⟨fun b o eb n hb => ?_, fun b o eb n hb => ?_, fun b o eb n => ?_, fun b o eb hb => ?_, fun b xs e => ub.tups b xs (I.base.tups b xs e), fun b o u e => ub.frzs b o u (I.base.frzs b o u e), fun b ps e => ?_⟩, q⟩
  · exact ub.keep b o (I.base.keep b o eb n hb (List.not_mem_nil)) (I.base.free b o eb n (List.not_mem_nil)) (nF b o eb hb)
  · obtain ⟨sl, e1⟩ := I.base.slot b o eb n hb (List.not_mem_nil)
    obtain ⟨sl', e2⟩ := ub.slot b _ e1 (I.base.free b o eb n (List.not_mem_nil)) (yF b hb)
    obtain ⟨_, o2, e3, d3⟩ := frs_none hfl.2.2.1 (yF b hb)
    rw [e2] at e3
    cases e3
    obtain ⟨sl2, e4⟩ := hsm b _ e2 d3
    exact ⟨sl2, e4⟩
  · obtain ⟨o', e1⟩ := I.base.there b o eb (List.not_mem_nil)
    exact ub.free b o' e1 (I.base.free b o eb n (List.not_mem_nil))
  · obtain ⟨o', e1⟩ := I.base.there b o eb (List.not_mem_nil)
    exact ub.there b o' e1 (nF b o eb hb)
  · obtain ⟨m1, e1⟩ := I.base.tbls b ps e
    obtain ⟨m2, e2⟩ := ub.tbls b _ e1
    exact ⟨m1 ++ m2, by rw [e2, Array.append_assoc]⟩
end
theorem exc_obj {K : PySem.W.Frag} {h : Heap} {C : Addr} {bmB : List Value} {newId : String} (X : K.In h) (q : PySem.W.excIn K C bmB newId = true) :
    ∃ bm N nm qn bs hdct sn sub ab col dd k0 k1 k2 k3 k5 mN, h.get? C = some (excClassObj nm qn C N bs bm hdct sn sub ab col dd k0 k1 k2 k3 k5 newId) ∧ h.Ns N mN ∧ mN "__init__" = none ∧ OwnTail h bmB bm := by
  unfold PySem.W.excIn at q
  split at q
  next dd cd sl look =>
    split at q
    next C1 tl a0 a1 a2 a3 nid a5 e1 e2 =>
      simp only [Bool.and_eq_true, beq_iff_eq, Bool.not_eq_true'] at q
      obtain ⟨⟨⟨⟨⟨q1, q2⟩, q3⟩, q4⟩, q5⟩, q6⟩ := q
      subst q1 q2
      cases cd
      dsimp only at e1 q3 q5 q6
      subst e1 q3
      have e3 : sl = #[a0, a1, a2, a3, some (.builtin nid), a5] := by
        cases sl
        dsimp only at e2
        rw [e2]
      subst e3
      exact ⟨tl, _, _, _, _, _, _, _, _, _, _, _, _, _, _, _, _, X _ _ look, .of_isNs (PySem.W.isNs_of_in X q5), PySem.W.nsMap_none_of_in X q5 q6, PySem.W.tail_of_in X q4⟩
    next => cases q
  next => cases q
def tRaise (cls : Value) (E : XK) (ta : TA) : TS := fun _ σ H => ta σ H fun vs H1 => vs.length ≤ 8 ∧ E cls none H1
section
variable {X : Cx}
theorem ps_raise {x : Str} {e : Expr} {es : List Expr} {ta : TA} {C : Addr} {B newId initId : String} {bmB : List Value} {E : XK} {np cpos pos : Pos} (FB : ExcBaseFacts B newId initId bmB) (hC : PySem.W.excIn X.K C bmB newId = true)
    (hg : Gl X x) (hm : X.mg x = some (.ref C)) (hc : X.calm = true) (ha : PA X (e :: es) ta)
    (hx : ∀ (pins : List (Addr × Obj)) (σ : St) (H2 : Hp) (s2 : Shared) (h' : Heap) (ea : Addr) (vs : List Value), Inv X pins σ H2 s2 → Heap.MadeExcOf s2.heap h' ea (.ref C) vs → E (.ref C) none H2 → X.xe (.ref ea) { s2 with heap := h' })
    (hdb : (x == ("__debug__" : Str)) = false) (he : starEach (e :: es) X.env = (false, eval e X.env) :: starEach es X.env) (hpl : (backTo cpos (starEach es X.env)).any (·.1) = false) :
    PS X (.Raise (some (.Call (.Name x np) (e :: es) [] cpos)) none pos) (tRaise (.ref C) E ta) := by
  intro pins s σ H D I h
  obtain ⟨bm, N, nm, qn, bs, hdct, sn, sub, ab, col, dd, k0, k1, k2, k3, k5, mN, hO, hN, hni, TL⟩ := exc_obj I.mod.kin hC
  refine wpAny_Raise_call_subT (C := C) (nm := nm) (q := qn) (N := N) (bs := bs) (bm := bm) (hdct := hdct) (sn := sn) (sub := sub) (ab := ab) (col := col) (dd := dd) (k0 := k0) (k1 := k1) (k2 := k2) (k3 := k3) (k5 := k5)
    FB (mN := mN) (TL.hasType FB.hasBase) (I.ok.hd hc) (by rw [he]; show (false || (backTo cpos (starEach es X.env)).any (·.1)) = false; rw [hpl]; rfl) hni (ld_glob I hg hm ⟨rfl, ?_⟩ hdb)
  have hA := ha cpos pins s σ H _ I h
  rw [he] at hA ⊢
  refine Calls.evalArgs_plain (thn hA fun us s2 ⟨vs, H2, I2, r2, hz, q2⟩ => ⟨rfl, ?_, I2.bk _ _ hO, hN.keeps I2.bk, TL.keeps I2.bk, fun h' ea hmade => hx pins σ H2 s2 h' ea us I2 hmade q2⟩)
  show us.length ≤ sizeLine
  rw [← r2.length]
  exact Nat.le_trans hz (by decide)
end
end L2
set_option Elab.async false
set_option linter.all false
set_option maxRecDepth 100000
namespace L2
open PySem PySem.Spec PyProof.Rows
section
variable {X : Cx} {e : Expr} {es : List Expr} {t : TA} {x : Str} {p pos : Pos}
end
theorem HOk.untracked {P : Program} {w : World} {H : Hp} {B : Heap} {a : Addr} (hok : HOk P w H B) (hno : B.get? a = none) : H a = none := by
  cases e2 : H a with
  | none => rfl
  | some o =>
    have hlt := hok a o e2
    exfalso
    cases o with
    | lst xs => obtain ⟨_, _, _, _, z⟩ := hlt; rw [hno] at z; cases z
    | tup xs => obtain ⟨_, _, _, z⟩ := hlt; obtain ⟨_, z, _⟩ := z; rw [hno] at z; cases z
    | dK kvs => obtain ⟨_, _, _, _, _, _, _, z, _⟩ := hlt; rw [hno] at z; cases z
    | dT kvs => obtain ⟨_, _, _, _, _, _, _, z, _⟩ := hlt; rw [hno] at z; cases z
    | set S n => obtain ⟨_, _, _, _, z, _⟩ := hlt; rw [hno] at z; cases z
    | ins C dx fs => obtain ⟨_, _, _, z, _⟩ := hlt; rw [hno] at z; cases z
    | own y => obtain ⟨_, z⟩ := hlt; rw [hno] at z; cases z
    | xd fs => obtain ⟨_, ⟨_, _, _, z, _⟩, _⟩ := hlt; rw [hno] at z; cases z
    | rng lo hi => obtain ⟨_, _, _, z⟩ := hlt; rw [hno] at z; cases z
    | frz ob u => obtain ⟨z, _⟩ := hlt; rw [hno] at z; cases z
    | tbl ps => have z : B.get? a = some _ := hlt; rw [hno] at z; cases z
    | met f y => have z : B.get? a = some _ := hlt; rw [hno] at z; cases z
    | ext φ => obtain ⟨_, ⟨_, z⟩, _⟩ := hlt; rw [hno] at z; cases z
abbrev Cx.hand (X : Cx) (ea : Addr) : Cx := { X with A := X.A.mark (some (.ref ea)), calm := false, xe := fun _ _ => False }
section
variable {X : Cx} {pins : List (Addr × Obj)} {σ : St} {H : Hp} {s : Shared}
theorem Inv.hand (I : Inv X pins σ H s) (ea : Addr) : Inv (X.hand ea) pins σ H s :=
  ⟨⟨I.ok.mod, I.ok.kind, I.ok.glob, I.ok.blt, I.ok.above, I.ok.inj, I.ok.has, I.ok.cab, fun h => (nomatch (show false = true from h)), I.ok.frames, I.ok.stk, I.ok.exf, I.ok.bs, I.ok.bsz, I.ok.noex, I.ok.exfs, I.ok.funs, I.ok.frf⟩, I.os, I.bare, I.base, I.loc, I.cell, I.free, I.freeC, I.pin, I.hok, I.len⟩
end
section
variable {X : Cx}
end
end L2
set_option Elab.async false
set_option linter.all false
set_option maxRecDepth 100000
namespace L2
open PySem PySem.Spec PyProof.Rows
mutual
inductive Dat (K : PySem.W.Frag) (H : Hp) : V → PyData → Prop where
  | non : Dat K H .non .none
  | bl (b : Bool) : Dat K H (.bl b) (.bool b)
  | int (i : Int) : Dat K H (.int i) (.int i)
  | str (x : Str) : Dat K H (.str x) (.str x)
  | lst {a : Addr} {xs : List V} {ds : List PyData} (h : SqL K H a xs) (t : DatAll K H xs ds) : Dat K H (.ref a) (.list ds)
  | tup {a : Addr} {xs : List V} {ds : List PyData} (h : SqT K H a xs) (t : DatAll K H xs ds) : Dat K H (.ref a) (.tuple ds)
inductive DatAll (K : PySem.W.Frag) (H : Hp) : List V → List PyData → Prop where
  | nil : DatAll K H [] []
  | cons {x : V} {xs : List V} {d : PyData} {ds : List PyData} (h : Dat K H x d) (t : DatAll K H xs ds) : DatAll K H (x :: xs) (d :: ds)
end
section
variable {X : Cx} {pins : List (Addr × Obj)} {σ : St} {H : Hp} {s : Shared}
mutual
theorem Inv.dat (I : Inv X pins σ H s) : ∀ {x : V} {d : PyData} {u : Value}, Dat X.K H x d → RelV x u → ∃ as, Reads s.heap u d as
  | _, _, _, .non, r => by cases (show _ = Value.none from r); exact ⟨_, .none⟩
  | _, _, _, .bl b, r => by cases (show _ = Value.bool b from r); exact ⟨_, .bool b⟩
  | _, _, _, .int i, r => by obtain ⟨t, rfl⟩ := (show ∃ t, _ = Value.int i t from r); exact ⟨_, .int i t⟩
  | _, _, _, .str x, r => by obtain ⟨t, rfl⟩ := (show ∃ t, _ = Value.str x t from r); exact ⟨_, .str x t⟩
  | _, _, _, .lst (a := a) h t, r => by
    cases (show _ = Value.ref a from r)
    obtain ⟨its, rv, ⟨o, n, e, c, _, d⟩, _⟩ := I.list h
    obtain ⟨as, z⟩ := Inv.datAll I t rv
    exact ⟨_, .list e c d (by simpa using z)⟩
  | _, _, _, .tup (a := a) h t, r => by
    cases (show _ = Value.ref a from r)
    obtain ⟨its, rv, ⟨o, e, c, n, d⟩, _⟩ := I.tuple h
    obtain ⟨as, z⟩ := Inv.datAll I t rv
    exact ⟨_, .tuple e c d (by simpa using z)⟩
theorem Inv.datAll (I : Inv X pins σ H s) : ∀ {xs : List V} {ds : List PyData} {us : List Value}, DatAll X.K H xs ds → Vals xs us → ∃ as, ReadsAll s.heap us ds as
  | _, _, _, .nil, .nil => ⟨_, .nil⟩
  | _, _, _, .cons h t, .cons r rr => by
    obtain ⟨as, z⟩ := Inv.dat I h r
    obtain ⟨bs, z'⟩ := Inv.datAll I t rr
    exact ⟨_, .cons z z'⟩
end
end
abbrev rNeD (K : PySem.W.Frag) : R2 := fun x y H Q => ∃ da db, Dat K H x da ∧ Dat K H y db ∧ SeqAt.shaped da = true ∧ SeqAt.shaped db = true ∧ Q (.bl (!PyData.eqv da db)) H
section
variable {X : Cx}
theorem op_neD (hu : X.A.units + 64 < cLine) : OpR X (compareOp .NotEq) (rNeD X.K) := by
  intro pins s σ H x y v u Q I rx ry h
  obtain ⟨da, db, h1, h2, s1, s2, q⟩ := h
  obtain ⟨as, z1⟩ := I.dat h1 rx
  obtain ⟨bs, z2⟩ := I.dat h2 ry
  exact ne_dataH z1 z2 s1 s2 hu ⟨.bl _, H, I, rfl, q⟩
end
theorem PS.nox {X : Cx} {st : Stmt} {t : TS} (h : PS X.nox st t) : PS X st t := fun pins s σ H D I hw =>
  wpAny_mono (h pins s σ H D (I.wish _) hw) (fun _ _ q => q.unwish) fun _ _ z => z.elim
section
variable {X : Cx} {e : Expr} {es : List Expr} {t : TA} {x : Str} {p pos np cpos hpos : Pos}
theorem ks_nox {st : Stmt} {t : TS} (h : QS X.nox st t) : QS X st t := ⟨PS.nox h.p⟩
theorem pass1 {P : Program} {w : World} : Passes (CX1 P w) X E0 := fun _ _ _ _ _ _ _ ⟨_, _, _, _, _, _, _, _, _, _, _, q⟩ => q.elim
theorem ks_raise {C : Addr} {B newId initId : String} {bmB : List Value} {E : XK} (FB : ExcBaseFacts B newId initId bmB) (hC : PySem.W.excIn X.K C bmB newId = true) (hm : X.mg x = some (.ref C)) (ha : QA X (e :: es) t)
    (hx : ∀ (pins : List (Addr × Obj)) (σ : St) (H2 : Hp) (s2 : Shared) (h' : Heap) (ea : Addr) (vs : List Value), Inv X pins σ H2 s2 → Heap.MadeExcOf s2.heap h' ea (.ref C) vs → E (.ref C) none H2 → X.xe (.ref ea) { s2 with heap := h' })
    (hg : X.env.kindOf x = some .globalImplicit := by kernel_rfl) (hc : X.calm = true := by kernel_rfl)
    (hdb : (x == ("__debug__" : Str)) = false := by kernel_rfl) (he : starEach (e :: es) X.env = (false, eval e X.env) :: starEach es X.env := by kernel_rfl) (hpl : (backTo cpos (starEach es X.env)).any (·.1) = false := by kernel_rfl) :
    QS X (.Raise (some (.Call (.Name x np) (e :: es) [] cpos)) none pos) (tRaise (.ref C) E t) := ⟨ps_raise FB hC hg hm hc ha.p hx hdb he hpl⟩
end
theorem Fun.okX {P : Program} {w : World} {K : PySem.W.Frag} {mg : Str → Option Value} {base : Heap} {x qual : Str} {st : Stmt} {f : Addr} {fd : FuncData} {N ps : List Str} {k : Nat} {sp : Sp} (F : Fun K x qual st f fd) (S : FnScope N ps (defScope st)) {rd : XK → TS} (len : ∀ vs H Q E, sp vs H Q E → vs.length = ps.length)
    (hb : ∀ (cdv : Value) (A : Around) (outer : List Env) (s : Shared) (H : Hp) (E : XK), Room k (A.deeper (envOfC qual (defScope st) s.heap.objs.size f cdv)) → QSs (cxOf (CX1 P w) P w K mg base N qual (defScope st) f cdv A outer s H E) (defBody st) (rd E))
    (hq : ∀ (vs : List V) (H : Hp) (Q : VK) (E : XK), sp vs H Q E → rd E { nx := fun _ H' => Q .non H', rt := Q } (start N vs) H) : FnOk P w K mg base (CX1 P w) (k + 1) f fd ps sp := by
  obtain ⟨oc, od, kV, doc, pm, an, cdv, ct, osl, rfl, lk, hcd⟩ := F.ex
  exact fn_of lk hcd S len fun A outer s H vs Q E hr hsp => ⟨rd E, (hb cdv A outer s H E hr).p, hq vs H Q E hsp⟩
end L2
set_option Elab.async false
set_option linter.all false
set_option maxRecDepth 100000
namespace L2
open PySem PySem.Spec PyProof.Rows PySem.Builtin.Str
section
variable {X : Cx}
end
end L2
set_option Elab.async false
set_option linter.all false
set_option maxRecDepth 100000
namespace L2
open PySem PySem.Spec PyProof.Rows
section
variable {X : Cx} {pins : List (Addr × Obj)} {σ : St} {H : Hp} {s : Shared}
end
section
variable {X : Cx}
end
end L2
set_option Elab.async false
set_option linter.all false
set_option maxRecDepth 100000
namespace L2
open PySem PySem.Spec PyProof.Rows
section
variable {prog : Program} {w : World} {A : Around} {E : Value → Shared → Prop} {s : Shared}
end
section
variable {X : Cx}
end
end L2
set_option Elab.async false
set_option linter.all false
set_option maxRecDepth 100000
namespace L2
open PySem PySem.Spec PyProof.Rows
section
variable {X : Cx} {tg : Expr}
end
end L2
set_option Elab.async false
set_option linter.all false
set_option maxRecDepth 100000
namespace L2
open PySem PySem.Spec PyProof.Rows
variable {X : Cx}
end L2
set_option Elab.async false
set_option linter.all false
set_option maxRecDepth 100000
namespace L2
open PySem PySem.Spec PyProof.Rows
section
variable {X : Cx}
end
theorem Same.tup {K : PySem.W.Frag} {H H' : Hp} {a : Addr} {xs : List V} (e : Same H H') (h : SqT K H a xs) : SqT K H' a xs := by
  rcases h with (h | ⟨o, h⟩) | h
  · exact .inl (.inl (e _ _ h))
  · exact .inl (.inr ⟨o, e _ _ h⟩)
  · exact .inr h
theorem seq_any {A C : TS} {D : Ends} {σ : St} {H : Hp} (h : ∀ c : St → Hp → Prop, (∀ σ' H', C D σ' H' → c σ' H') → A { D with nx := c } σ H) : tSeq A C D σ H := h _ fun _ _ z => z
theorem seq_set {te : TE} {i : Nat} {C : TS} {D : Ends} {σ : St} {H : Hp} (h : ∀ c : V → Hp → Prop, (∀ x H1, C D (σ.set i (some x)) H1 → c x H1) → te σ H c) : tSeq (tAsg te (gName i)) C D σ H := h _ fun _ _ z => z
theorem slTo_go {H : Hp} {l : List Nat} {i : Int} {Q : VK} (hz : l.length ≤ 100000) (h0 : 0 ≤ i) (h1 : i ≤ l.length) (q : Q (.str (txt (l.take i.toNat))) H) : rSlS (.str (txt l)) none (some i) H Q :=
  slS_go hz (by rw [cutL_to h0 (by omega)]; exact q)
theorem comp_lst {K : PySem.W.Frag} {a : Addr} {xs : List V} {σ : St} {fs : List Nat} {tt : TT} {te : TE} {H : Hp} {Q : VK} (Pv : Nat → List V → Hp → Prop) (h0 : Pv 0 [] H) (hl : ∀ i ys H, i ≤ xs.length → Pv i ys H → SqL K H a xs ∧ ys.length ≤ i) (hn : xs.length ≤ sizeLine)
    (hs : ∀ i x ys H, xs[i]? = some x → Pv i ys H → ∀ R : List V → Hp → Prop, (∀ ys' H', Pv (i + 1) ys' H' → R ys' H') → tt (some x :: compSt fs σ) H fun b H2 => if b = true then te (some x :: compSt fs σ) H2 fun y H3 => R (ys ++ [y]) H3 else R ys H2)
    (hd : ∀ ys H, Pv xs.length ys H → ∀ p, H p = none → Q (.ref p) (upd H p (.lst ys))) :
    ∃ W : Nat → Nat → List V → Hp → Prop, (∃ m, W 0 m [] H) ∧ ∀ i m ys H, W i m ys H → ys.length ≤ sizeLine ∧
      (((Itl K a).stop i H ∧ ∀ p, H p = none → Q (.ref p) (upd H p (.lst ys))) ∨
       ((Itl K a).go i H ∧ ys.length < sizeLine ∧ ∀ x H', (Itl K a).yld i H x H' → tt (some x :: compSt fs σ) H' fun b H2 => if b = true then te (some x :: compSt fs σ) H2 fun y H3 => ∃ m', m' < m ∧ W (i + 1) m' (ys ++ [y]) H3 else ∃ m', m' < m ∧ W (i + 1) m' ys H2)) := by
  refine ⟨fun i m ys H => m = xs.length - i ∧ i ≤ xs.length ∧ Pv i ys H, ⟨xs.length, by simp, Nat.zero_le _, h0⟩, ?_⟩
  rintro i m ys H ⟨rfl, hi, p⟩
  obtain ⟨hq, hle⟩ := hl i ys H hi p
  refine ⟨by omega, ?_⟩
  by_cases hlt : i < xs.length
  · refine .inr ⟨⟨xs, xs[i], hq, by simp [hlt]⟩, by omega, fun x H' y => ?_⟩
    obtain ⟨e, y⟩ := y
    subst e
    exact hs i x ys _ (y xs hq) p (fun ys' H' => ∃ m', m' < xs.length - i ∧ m' = xs.length - (i + 1) ∧ i + 1 ≤ xs.length ∧ Pv (i + 1) ys' H') fun ys' H' q => ⟨xs.length - (i + 1), by omega, rfl, hlt, q⟩
  · have e : i = xs.length := by omega
    subst e
    exact .inl ⟨⟨xs, hq, Nat.le_refl _⟩, hd ys H p⟩
theorem comp_by {wi : TI} {fs : List Nat} {tt : TT} {te : TE} {σ : St} {H : Hp} {Q : VK} (h : ∀ R : It → Hp → Prop, (∀ J H1, R J H1 = ∃ W : Nat → Nat → List V → Hp → Prop, (∃ m, W 0 m [] H1) ∧ ∀ i m ys H, W i m ys H → ys.length ≤ sizeLine ∧
  ((J.stop i H ∧ ∀ p, H p = none → Q (.ref p) (upd H p (.lst ys))) ∨
   (J.go i H ∧ ys.length < sizeLine ∧ ∀ x H', J.yld i H x H' → tt (some x :: compSt fs σ) H' fun b H2 => if b = true then te (some x :: compSt fs σ) H2 fun y H3 => ∃ m', m' < m ∧ W (i + 1) m' (ys ++ [y]) H3 else ∃ m', m' < m ∧ W (i + 1) m' ys H2))) → wi σ H R) : tComp wi fs tt te σ H Q := h _ fun _ _ => rfl
end L2
set_option Elab.async false
set_option linter.all false
set_option maxRecDepth 100000
namespace Asc
open PySem PyProof.Rows
section
variable {P : Program} {wd : World} {Ar : Around} {Er : Value → Shared → Prop} {sh : Shared} {b0 : Array Keyed} {kd : KeyKind}
end
end Asc
namespace L2
open PySem PySem.Spec PyProof.Rows
section
variable {X : Cx}
end
end L2
set_option Elab.async false
set_option linter.all false
set_option maxRecDepth 100000
namespace L2
open PySem PySem.Spec PyProof.Rows
section
variable {X : Cx}
end
section
variable {X : Cx} {iter : Expr} {x x2 : Str} {px px2 ptg pos : Pos} {kt : Nat}
end
end L2
set_option Elab.async false
set_option linter.all false
set_option maxRecDepth 100000
namespace MaxD
open PySem PyProof.Rows
section
variable {P : Program} {wd : World} {Ar : Around} {Rs : Result → Shared → Prop} {it : Addr} {fp wr : List Addr} {n : Nat} {F : Nat → Value → Prop} {St : Nat → Heap → Prop}
theorem rest (W : Walks P wd Ar.in1 it fp wr n F St) (bt : Nat → Nat → Bool) (cmp : CmpOf P wd Ar.in1 .Gt F bt) (S : Addr) (hS : S ∉ fp) (kw : List (Str × Value)) :
    ∀ (k j : Nat) (s : Shared) (vb : Value) (c : Nat), n - (j + 1) = k → j + 1 ≤ n → St (j + 1) s.heap → F (argBest bt j) vb → s.heap.get? S = some { cls := .type "list", dict := none, data := .seq #[vb, vb] c, slots := #[] } →
    (∀ v h' tk, F (argBest bt (n - 1)) v → (∀ b o, b ∉ wr → b ≠ S → s.heap.get? b = some o → h'.get? b = some o) → Rs (.ok (.ret v)) { s with heap := h', toks := tk }) → codeAny (model P wd) Ar (.builtin "max.loop" ⟨[.ref it, .none, .ref S], kw⟩) Rs s := by
  have wS : S ∉ wr := fun h => hS (W.sub _ h)
  have nm : (toString "max" ++ toString ".loop" : String) = "max.loop" := by decide
  intro k
  induction k with
  | zero =>
    intro j s vb c hk hj st best hb q
    have e : j + 1 = n := by omega
    refine codeAny_builtin PySem.F.entry_max_loop ?_
    rw [Around.under_plainId PySem.F.plain_max_loop _]
    show wpAny _ Ar.in1 (seqItems? (.ref S) >>= _) _ _ s
    refine wpAny_bind (wpAny_seqItems hb rfl ?_)
    show wpAny _ Ar.in1 (tryCatch (pyNext (.ref it)) _ >>= _) _ _ s
    refine wpAny_bind (wpAny_tryCatch (W.done s _ _ (e ▸ st) fun h' tk kp => ?_))
    show wpAny _ Ar.in1 (updateSeq S (fun _ => #[]) >>= _) _ _ _
    refine wpAny_bind (wpAny_updateSeq (kp S _ wS hb) rfl (wpAny_bind (wpAny_letGo (wpAny_pure ?_))))
    exact q vb _ tk (by rw [← e]; exact best) fun b o hbw hbS eb => (Heap.get?_update_other _ _ (Ne.symm hbS)).trans (kp b o hbw eb)
  | succ k ih =>
    intro j s vb c hk hj st best hb q
    have lt : j + 1 < n := by omega
    refine codeAny_builtin PySem.F.entry_max_loop ?_
    rw [Around.under_plainId PySem.F.plain_max_loop _]
    show wpAny _ Ar.in1 (seqItems? (.ref S) >>= _) _ _ s
    refine wpAny_bind (wpAny_seqItems hb rfl ?_)
    show wpAny _ Ar.in1 (tryCatch (pyNext (.ref it)) _ >>= _) _ _ s
    refine wpAny_bind (wpAny_tryCatch (W.item (j + 1) s _ _ lt st fun v h' tk fv st' kp => ?_))
    have hb' := kp S _ wS hb
    show wpAny _ Ar.in1 (tryCatch (holding [v, v] (richCompare .Gt v vb >>= _)) _ >>= _) _ _ _
    refine wpAny_bind (wpAny_tryCatch (wpAny_holding (wpAny_bind (cmp (j + 1) (argBest bt j) v vb _ _ _ fv best ?_))))
    refine wpAny_bind (wpAny_holding (wpAny_truthy_bool (wpAny_bind (wpAny_letGo (wpAny_pure ?_)))))
    cases eb : bt (j + 1) (argBest bt j) with
    | true =>
      simp only [if_true]
      refine wpAny_bind (wpAny_updateSeq hb' rfl (wpAny_bind (wpAny_letGo ?_)))
      rw [nm]
      refine wpAny_pure ⟨plainId_quiet PySem.F.plain_max_loop _, ih (j + 1) _ v _ (by omega) lt (W.frame _ _ _ st' fun b hbf o e => ?_) (by simp only [argBest, eb, if_true]; exact fv) (Heap.get?_update_self _ hb' rfl) fun v' h2 tk2 fv2 kp2 => ?_⟩
      · exact (Heap.get?_update_other _ _ (fun z : S = b => hS (by rw [z]; exact hbf))).trans e
      · exact q v' h2 tk2 fv2 fun b o hbw hbS e => kp2 b o hbw hbS ((Heap.get?_update_other _ _ (Ne.symm hbS)).trans (kp b o hbw e))
    | false =>
      simp only [Bool.false_eq_true, if_false]
      refine wpAny_bind (wpAny_letGo ?_)
      rw [nm]
      refine wpAny_pure ⟨plainId_quiet PySem.F.plain_max_loop _, ih (j + 1) _ vb c (by omega) lt st' (by simp only [argBest, eb, Bool.false_eq_true, if_false]; exact best) hb' fun v' h2 tk2 fv2 kp2 => ?_⟩
      exact q v' h2 tk2 fv2 fun b o hbw hbS e => kp2 b o hbw hbS (kp b o hbw e)
theorem whole (W : Walks P wd Ar.in1 it fp wr n F St) (bt : Nat → Nat → Bool) (cmp : CmpOf P wd Ar.in1 .Gt F bt) (S : Addr) (hS : S ∉ fp) (d : Value) {s : Shared} {c : Nat} (st : St 0 s.heap) (hb : s.heap.get? S = some { cls := .type "list", dict := none, data := .seq #[] c, slots := #[] })
    (q : ∀ v h' tk, (0 < n → F (argBest bt (n - 1)) v) → (n = 0 → v = d) → (∀ b o, b ∉ wr → b ≠ S → s.heap.get? b = some o → h'.get? b = some o) → Rs (.ok (.ret v)) { s with heap := h', toks := tk }) :
    codeAny (model P wd) Ar (.builtin "max.loop" ⟨[.ref it, .none, .ref S], [("default", d)]⟩) Rs s := by
  have wS : S ∉ wr := fun h => hS (W.sub _ h)
  have nm : (toString "max" ++ toString ".loop" : String) = "max.loop" := by decide
  refine codeAny_builtin PySem.F.entry_max_loop ?_
  rw [Around.under_plainId PySem.F.plain_max_loop _]
  show wpAny _ Ar.in1 (seqItems? (.ref S) >>= _) _ _ s
  refine wpAny_bind (wpAny_seqItems hb rfl ?_)
  show wpAny _ Ar.in1 (tryCatch (pyNext (.ref it)) _ >>= _) _ _ s
  by_cases hn : 0 < n
  · refine wpAny_bind (wpAny_tryCatch (W.item 0 s _ _ hn st fun v h' tk fv st' kp => ?_))
    have hb' := kp S _ wS hb
    show wpAny _ Ar.in1 (updateSeq S (fun _ => #[v, v]) >>= _) _ _ _
    refine wpAny_bind (wpAny_updateSeq hb' rfl ?_)
    rw [nm]
    refine wpAny_pure ⟨plainId_quiet PySem.F.plain_max_loop _, rest W bt cmp S hS _ _ 0 _ v _ rfl hn (W.frame _ _ _ st' fun b hbf o e => ?_) fv (Heap.get?_update_self _ hb' rfl) fun v' h2 tk2 fv2 kp2 => ?_⟩
    · exact (Heap.get?_update_other _ _ (fun z : S = b => hS (by rw [z]; exact hbf))).trans e
    · exact q v' h2 tk2 (fun _ => fv2) (fun z => by omega) fun b o hbw hbS e => kp2 b o hbw hbS ((Heap.get?_update_other _ _ (Ne.symm hbS)).trans (kp b o hbw e))
  · have e0 : n = 0 := by omega
    refine wpAny_bind (wpAny_tryCatch (W.done s _ _ (e0 ▸ st) fun h' tk kp => ?_))
    first
      | exact wpAny_bind (wpAny_rule (wpAny_pure (q d h' tk (fun z => absurd z hn) (fun _ => rfl) fun b o hbw _ e => kp b o hbw e)))
      | (refine wpAny_bind (wpAny_rule ?_); exact wpAny_pure (q d h' tk (fun z => absurd z hn) (fun _ => rfl) fun b o hbw _ e => kp b o hbw e))
end
section
variable {P : Program} {wd : World} {Ar : Around} {Er : Value → Shared → Prop} {s : Shared}
end
end MaxD
namespace L2
open PySem PySem.Spec PyProof.Rows
section
variable {X : Cx}
end
end L2
namespace L2
open PySem PySem.Spec PyProof.Rows
section
variable {X : Cx} {e o value d : Expr} {es : List Expr} {f x m : Str} {pos pos' p apos kp : Pos} {ta tv td : TE} {t : TA}
variable {CX : CXT} {k : Nat} {g C : Addr} {fd : FuncData} {ps : List Str} {sp : Sp} {E : XK}
end
end L2
set_option Elab.async false
set_option linter.all false
set_option maxRecDepth 100000
namespace L2
open PySem PySem.Spec PyProof.Rows
section
variable {X : Cx}
end
end L2
set_option Elab.async false
set_option linter.all false
set_option maxRecDepth 100000
namespace L2
open PySem PySem.Spec PyProof.Rows
theorem ex1 {α : Type} {us : List α} (hl : us.length = 1) : ∃ a0, us = [a0] := by
  match us, hl with
  | [_], _ => exact ⟨_, rfl⟩
theorem ex2 {α : Type} {us : List α} (hl : us.length = 2) : ∃ a0 a1, us = [a0, a1] := by
  match us, hl with
  | [_, _], _ => exact ⟨_, _, rfl⟩
theorem ex3 {α : Type} {us : List α} (hl : us.length = 3) : ∃ a0 a1 a2, us = [a0, a1, a2] := by
  match us, hl with
  | [_, _, _], _ => exact ⟨_, _, _, rfl⟩
theorem ex4 {α : Type} {us : List α} (hl : us.length = 4) : ∃ a0 a1 a2 a3, us = [a0, a1, a2, a3] := by
  match us, hl with
  | [_, _, _, _], _ => exact ⟨_, _, _, _, rfl⟩
theorem ex6 {α : Type} {us : List α} (hl : us.length = 6) : ∃ a0 a1 a2 a3 a4 a5, us = [a0, a1, a2, a3, a4, a5] := by
  match us, hl with
  | [_, _, _, _, _, _], _ => exact ⟨_, _, _, _, _, _, rfl⟩
theorem ex7 {α : Type} {us : List α} (hl : us.length = 7) : ∃ a0 a1 a2 a3 a4 a5 a6, us = [a0, a1, a2, a3, a4, a5, a6] := by
  match us, hl with
  | [_, _, _, _, _, _, _], _ => exact ⟨_, _, _, _, _, _, _, rfl⟩
section
variable {X : Cx}
end
end L2
namespace MM
def val (K : Nat) : List Nat → Nat → Nat
  | _, 0 => 0
  | [], _ + 1 => 0
  | c :: m, n + 1 => (c - 97) * K ^ n + val K m n
def Ls (K : Nat) (m : List Nat) : Prop := ∀ c ∈ m, 97 ≤ c ∧ c < 97 + K
def Na (m : List Nat) : Prop := ∀ c, m.getLast? = some c → c ≠ 97
structure Mark (K : Nat) (m : List Nat) : Prop where
  ls : Ls K m
  na : Na m
  ne : m ≠ []
theorem Ls.tail {K c : Nat} {m : List Nat} (h : Ls K (c :: m)) : Ls K m := fun x hx => h x (List.mem_cons_of_mem _ hx)
theorem Ls.head {K c : Nat} {m : List Nat} (h : Ls K (c :: m)) : 97 ≤ c ∧ c < 97 + K := h c List.mem_cons_self
theorem Ls.nil (K : Nat) : Ls K [] := fun _ h => nomatch h
theorem Ls.app {K : Nat} {a b : List Nat} (h : Ls K a) (h' : Ls K b) : Ls K (a ++ b) := fun c hc => (List.mem_append.mp hc).elim (h c) (h' c)
theorem Ls.mono {K L : Nat} {m : List Nat} (h : Ls K m) (hl : K ≤ L) : Ls L m := fun c hc => ⟨(h c hc).1, by have := (h c hc).2; omega⟩
theorem Ls.sub {K : Nat} {a b : List Nat} (h : Ls K b) (s : ∀ c ∈ a, c ∈ b) : Ls K a := fun c hc => h c (s c hc)
theorem Na.nil : Na [] := fun c h => by simp at h
theorem Na.tail {c : Nat} {m : List Nat} (h : Na (c :: m)) : Na m := fun x hx => by
  cases m with
  | nil => simp at hx
  | cons d r => exact h x (by rw [List.getLast?_cons_cons]; exact hx)
theorem Na.app {a b : List Nat} (h : Na b) (hb : b ≠ []) : Na (a ++ b) := fun c hc => by
  rw [List.getLast?_append] at hc
  cases e : b.getLast? with
  | none => exact absurd (List.getLast?_eq_none_iff.mp e) hb
  | some d => rw [e] at hc; exact h c (by rw [e]; exact hc)
theorem Na.one {c : Nat} (h : c ≠ 97) : Na [c] := fun d hd => by simp at hd; omega
theorem val_zero (K : Nat) (m : List Nat) : val K m 0 = 0 := by cases m <;> rfl
theorem val_nil (K n : Nat) : val K [] n = 0 := by cases n <;> rfl
theorem val_cons (K c n : Nat) (m : List Nat) : val K (c :: m) (n + 1) = (c - 97) * K ^ n + val K m n := rfl
theorem val_lt {K : Nat} (hK : 0 < K) : ∀ {m : List Nat} (n : Nat), Ls K m → val K m n < K ^ n
  | m, 0, _ => by rw [val_zero]; exact Nat.one_pos
  | [], n + 1, _ => by rw [val_nil]; exact Nat.pow_pos hK
  | c :: m, n + 1, h => by
    have ih := val_lt hK n h.tail
    have hc := h.head
    rw [val_cons, Nat.pow_succ]
    have h1 : (c - 97) * K ^ n + K ^ n ≤ K ^ n * K := by
      have : (c - 97 + 1) * K ^ n ≤ K * K ^ n := Nat.mul_le_mul_right _ (by omega)
      rw [Nat.add_mul, Nat.one_mul, Nat.mul_comm K] at this
      exact this
    omega
theorem val_pos {K : Nat} (hK : 0 < K) : ∀ {m : List Nat} (n : Nat), Ls K m → Na m → m ≠ [] → m.length ≤ n → 0 < val K m n
  | [], _, _, _, h, _ => absurd rfl h
  | c :: m, 0, _, _, _, h => by simp at h
  | [c], n + 1, h, hn, _, _ => by
    have h1 := h.head
    have h2 := hn c (by simp)
    rw [val_cons, val_nil]
    have : 0 < (c - 97) * K ^ n := Nat.mul_pos (by omega) (Nat.pow_pos hK)
    omega
  | c :: d :: m, n + 1, h, hn, _, hl => by
    have := val_pos hK n h.tail hn.tail (List.cons_ne_nil _ _) (by simpa using hl)
    rw [val_cons]; omega
theorem lt_parts {a b x y P : Nat} (hx : x < P) (hy : y < P) : a * P + x < b * P + y ↔ a < b ∨ a = b ∧ x < y := by
  constructor
  · intro h
    rcases Nat.lt_trichotomy a b with g | g | g
    · exact .inl g
    · subst g; exact .inr ⟨rfl, by omega⟩
    · have : (b + 1) * P ≤ a * P := Nat.mul_le_mul_right _ g
      rw [Nat.add_mul] at this; omega
  · rintro (g | ⟨rfl, g⟩)
    · have : (a + 1) * P ≤ b * P := Nat.mul_le_mul_right _ g
      rw [Nat.add_mul] at this; omega
    · omega
theorem eq_parts {a b x y P : Nat} (hx : x < P) (hy : y < P) : a * P + x = b * P + y ↔ a = b ∧ x = y := by
  constructor
  · intro h
    rcases Nat.lt_trichotomy a b with g | g | g
    · have : (a + 1) * P ≤ b * P := Nat.mul_le_mul_right _ g
      rw [Nat.add_mul] at this; omega
    · subst g; exact ⟨rfl, by omega⟩
    · have : (b + 1) * P ≤ a * P := Nat.mul_le_mul_right _ g
      rw [Nat.add_mul] at this; omega
  · rintro ⟨rfl, rfl⟩; rfl
theorem sub97 {c d : Nat} (hc : 97 ≤ c) (hd : 97 ≤ d) : (c - 97 < d - 97 ↔ c < d) ∧ (c - 97 = d - 97 ↔ c = d) := ⟨by omega, by omega⟩
theorem lt_val {K : Nat} (hK : 0 < K) : ∀ {a b : List Nat} (n : Nat), Ls K a → Ls K b → Na a → Na b → a.length ≤ n → b.length ≤ n → (a < b ↔ val K a n < val K b n)
  | [], [], n, _, _, _, _, _, _ => by rw [val_nil]; simp
  | [], c :: b, n, _, hb, _, nb, _, lb => by
    rw [val_nil]
    have := val_pos hK n hb nb (List.cons_ne_nil _ _) lb
    simp [this]
  | c :: a, [], n, _, _, _, _, _, _ => by rw [val_nil]; simp
  | c :: a, d :: b, 0, _, _, _, _, la, _ => by simp at la
  | c :: a, d :: b, n + 1, ha, hb, na, nb, la, lb => by
    have ih := lt_val hK n ha.tail hb.tail na.tail nb.tail (by simpa using la) (by simpa using lb)
    rw [List.cons_lt_cons_iff, val_cons, val_cons, lt_parts (val_lt hK n ha.tail) (val_lt hK n hb.tail), (sub97 ha.head.1 hb.head.1).1, (sub97 ha.head.1 hb.head.1).2, ih]
theorem low_val {K : Nat} (hK : 0 < K) : ∀ {l x : List Nat} (n : Nat), Ls K l → Ls K x → Na x → x.length = n → (l < x ↔ val K l n < val K x n)
  | l, [], n, _, _, _, e => by
    obtain rfl : n = 0 := by simpa using e.symm
    rw [val_zero, val_zero]; simp
  | [], c :: x, n, _, hx, nx, e => by
    rw [val_nil]
    have := val_pos hK n hx nx (List.cons_ne_nil _ _) (Nat.le_of_eq e)
    simp [this]
  | d :: l, c :: x, 0, _, _, _, e => by simp at e
  | d :: l, c :: x, n + 1, hl, hx, nx, e => by
    have ih := low_val hK n hl.tail hx.tail nx.tail (by simpa using e)
    rw [List.cons_lt_cons_iff, val_cons, val_cons, lt_parts (val_lt hK n hl.tail) (val_lt hK n hx.tail), (sub97 hl.head.1 hx.head.1).1, (sub97 hl.head.1 hx.head.1).2, ih]
theorem high_val {K : Nat} (hK : 0 < K) : ∀ {x h : List Nat} (n : Nat), Ls K h → Ls K x → Na h → x.length = n → (x < h ↔ val K x n < val K h n ∨ (val K x n = val K h n ∧ n < h.length))
  | [], h, n, _, _, _, e => by
    obtain rfl : n = 0 := by simpa using e.symm
    rw [val_zero, val_zero]
    cases h <;> simp
  | c :: x, [], n, _, _, _, _ => by rw [val_nil]; simp
  | c :: x, d :: h, 0, _, _, _, e => by simp at e
  | c :: x, d :: h, n + 1, hh, hx, nh, e => by
    have ih := high_val hK n hh.tail hx.tail nh.tail (by simpa using e)
    have v1 := val_lt hK n hx.tail
    have v2 := val_lt hK n hh.tail
    rw [List.cons_lt_cons_iff, val_cons, val_cons, lt_parts v1 v2, eq_parts v1 v2, (sub97 hx.head.1 hh.head.1).1, (sub97 hx.head.1 hh.head.1).2, ih, List.length_cons, Nat.add_lt_add_iff_right]
    constructor
    · rintro (g | ⟨g, g' | g'⟩)
      · exact .inl (.inl g)
      · exact .inl (.inr ⟨g, g'⟩)
      · exact .inr ⟨⟨g, g'.1⟩, g'.2⟩
    · rintro ((g | g) | ⟨⟨g, g'⟩, g2⟩)
      · exact .inl g
      · exact .inr ⟨g.1, .inl g.2⟩
      · exact .inr ⟨g, .inr ⟨g', g2⟩⟩
def fig (m : List Nat) (i : Nat) : Nat := match m[i]? with | some c => c - 97 | none => 0
theorem val_succ (K : Nat) : ∀ (m : List Nat) (n : Nat), val K m (n + 1) = val K m n * K + fig m n
  | [], n => by rw [val_nil, val_nil]; simp [fig]
  | c :: m, 0 => by rw [val_cons, val_zero, val_zero]; simp [fig]
  | c :: m, n + 1 => by
    have ih := val_succ K m n
    rw [val_cons, ih, val_cons, Nat.pow_succ, Nat.add_mul, Nat.mul_assoc, ← Nat.add_assoc]
    simp [fig]
def low (K r : Nat) : Nat → List Nat
  | 0 => []
  | n + 1 => (97 + r / K ^ n % K) :: low K r n
theorem low_length (K r : Nat) : ∀ n, (low K r n).length = n
  | 0 => rfl
  | n + 1 => by rw [low, List.length_cons, low_length K r n]
theorem low_ls {K : Nat} (hK : 0 < K) (r : Nat) : ∀ n, Ls K (low K r n)
  | 0 => Ls.nil K
  | n + 1 => fun c hc => by
    rcases List.mem_cons.mp hc with rfl | hc
    · have := Nat.mod_lt (r / K ^ n) hK; omega
    · exact low_ls hK r n c hc
theorem low_val_eq {K : Nat} (hK : 0 < K) (r : Nat) : ∀ n, val K (low K r n) n = r % K ^ n
  | 0 => by rw [val_zero, Nat.pow_zero, Nat.mod_one]
  | n + 1 => by
    rw [low, val_cons, low_val_eq hK r n, Nat.pow_succ, Nat.mod_mul, Nat.add_comm, Nat.mul_comm, Nat.add_sub_cancel_left]
def cutA (m : List Nat) : List Nat := (m.reverse.dropWhile (fun c => [97].contains c)).reverse
theorem cutA_snoc_a (m : List Nat) : cutA (m ++ [97]) = cutA m := by
  unfold cutA
  rw [List.reverse_append]
  show (List.dropWhile _ (97 :: m.reverse)).reverse = _
  rw [List.dropWhile_cons_of_pos (by decide)]
theorem cutA_na {m : List Nat} (h : Na m) : cutA m = m := by
  unfold cutA
  cases e : m.reverse with
  | nil => rw [List.dropWhile_nil, ← e, List.reverse_reverse]
  | cons c r =>
    have hc : c ≠ 97 := h c (by rw [List.getLast?_eq_head?_reverse, e]; rfl)
    rw [List.dropWhile_cons_of_neg (by simp [hc]), ← e, List.reverse_reverse]
theorem cutA_spec (m : List Nat) : ∃ k, m = cutA m ++ List.replicate k 97 ∧ Na (cutA m) := by
  obtain ⟨n, hn⟩ : ∃ n, m.length = n := ⟨_, rfl⟩
  induction n generalizing m with
  | zero =>
    obtain rfl : m = [] := List.length_eq_zero_iff.mp hn
    exact ⟨0, rfl, Na.nil⟩
  | succ n ih =>
    by_cases h : Na m
    · exact ⟨0, by rw [cutA_na h]; simp, by rw [cutA_na h]; exact h⟩
    · obtain ⟨c, hc, e⟩ : ∃ c, m.getLast? = some c ∧ c = 97 := by
        apply Classical.byContradiction
        intro q
        exact h fun c hc e => q ⟨c, hc, e⟩
      subst e
      obtain ⟨r, rfl⟩ := List.getLast?_eq_some_iff.mp hc
      obtain ⟨k, e1, e2⟩ := ih r (by simpa using hn)
      rw [cutA_snoc_a]
      refine ⟨k + 1, ?_, e2⟩
      rw [List.replicate_succ', ← List.append_assoc, ← e1]
theorem val_app_a (K : Nat) : ∀ (m : List Nat) (k n : Nat), val K (m ++ List.replicate k 97) n = val K m n
  | m, k, 0 => by rw [val_zero, val_zero]
  | [], 0, n + 1 => rfl
  | [], k + 1, n + 1 => by
    rw [List.nil_append, List.replicate_succ, val_cons]
    have := val_app_a K [] k n
    rw [List.nil_append] at this
    rw [this, val_nil, val_nil]; simp
  | c :: m, k, n + 1 => by rw [List.cons_append, val_cons, val_cons, val_app_a K m k n]
theorem cutA_val (K : Nat) (m : List Nat) (n : Nat) : val K (cutA m) n = val K m n := by
  obtain ⟨k, e, _⟩ := cutA_spec m
  have h : val K m n = val K (cutA m ++ List.replicate k 97) n := by rw [← e]
  rw [h, val_app_a]
theorem cutA_na' (m : List Nat) : Na (cutA m) := by
  obtain ⟨k, _, h⟩ := cutA_spec m
  exact h
theorem cutA_len (m : List Nat) : (cutA m).length ≤ m.length := by
  obtain ⟨k, e, _⟩ := cutA_spec m
  have h : m.length = (cutA m ++ List.replicate k 97).length := by rw [← e]
  rw [h, List.length_append]; omega
theorem cutA_sub (m : List Nat) : ∀ c ∈ cutA m, c ∈ m := fun c hc => by
  obtain ⟨k, e, _⟩ := cutA_spec m
  rw [e]; exact List.mem_append_left _ hc
def mk (K r n : Nat) : List Nat := cutA (low K r n)
theorem mk_val {K : Nat} (hK : 0 < K) {r n : Nat} (h : r < K ^ n) : val K (mk K r n) n = r := by
  rw [mk, cutA_val, low_val_eq hK, Nat.mod_eq_of_lt h]
theorem mk_len (K r n : Nat) : (mk K r n).length ≤ n := by
  have := cutA_len (low K r n); rw [low_length] at this; exact this
theorem mk_ls {K : Nat} (hK : 0 < K) (r n : Nat) : Ls K (mk K r n) := (low_ls hK r n).sub (cutA_sub _)
theorem mk_na (K r n : Nat) : Na (mk K r n) := cutA_na' _
theorem mk_ne {K : Nat} (hK : 0 < K) {r n : Nat} (h0 : 0 < r) (h : r < K ^ n) : mk K r n ≠ [] := fun e => by
  have := mk_val hK h
  rw [e, val_nil] at this; omega
theorem mk_mark {K : Nat} (hK : 0 < K) {r n : Nat} (h0 : 0 < r) (h : r < K ^ n) : Mark K (mk K r n) := ⟨mk_ls hK r n, mk_na K r n, mk_ne hK h0 h⟩
end MM
namespace MM
def endsL (K h j : Nat) : List Nat := ((List.range (K - 1)).filter (fun i => decide (i % h = j))).map (98 + ·)
def endsFrom (K h j n : Nat) : List Nat := ((List.range' (n - 1) (K - n)).filter (fun i => decide (i % h = j))).map (98 + ·)
theorem endsFrom_one (K h j : Nat) : endsFrom K h j 1 = endsL K h j := by
  unfold endsFrom endsL
  rw [List.range_eq_range']
theorem endsFrom_stop {K h j n : Nat} (hn : K ≤ n) : endsFrom K h j n = [] := by
  unfold endsFrom
  have : K - n = 0 := by omega
  rw [this]; rfl
theorem endsFrom_skip {K h j n : Nat} (h1 : 1 ≤ n) (hK : n < K) (hne : (n - 1) % h ≠ j) : endsFrom K h j n = endsFrom K h j (n + 1) := by
  unfold endsFrom
  obtain ⟨d, hd⟩ : ∃ d, K - n = d + 1 := ⟨K - n - 1, by omega⟩
  have e2 : K - (n + 1) = d := by omega
  have e3 : n + 1 - 1 = n - 1 + 1 := by omega
  rw [hd, e2, e3, List.range'_succ, List.filter_cons]
  simp [hne]
theorem endsFrom_take {K h j n : Nat} (h1 : 1 ≤ n) (hK : n < K) (he : (n - 1) % h = j) : endsFrom K h j n = (97 + n) :: endsFrom K h j (n + 1) := by
  unfold endsFrom
  obtain ⟨d, hd⟩ : ∃ d, K - n = d + 1 := ⟨K - n - 1, by omega⟩
  have e2 : K - (n + 1) = d := by omega
  have e3 : n + 1 - 1 = n - 1 + 1 := by omega
  rw [hd, e2, e3, List.range'_succ, List.filter_cons]
  simp [he]; omega
theorem endsFrom_skips {K h j : Nat} : ∀ (m n : Nat), 1 ≤ n → (∀ i, i < m → (n - 1 + i) % h ≠ j) → endsFrom K h j n = endsFrom K h j (n + m)
  | 0, n, _, _ => rfl
  | m + 1, n, h1, hne => by
    by_cases hK : n < K
    · rw [endsFrom_skip h1 hK (by have := hne 0 (by omega); simpa using this), endsFrom_skips m (n + 1) (by omega) (fun i hi => by have := hne (i + 1) (by omega); rwa [show n - 1 + (i + 1) = n + 1 - 1 + i by omega] at this)]
      congr 1; omega
    · rw [endsFrom_stop (by omega), endsFrom_stop (by omega)]
theorem mod_add_ne {a h i : Nat} (hi : 0 < i) (hh : i < h) : (a + i) % h ≠ a % h := by
  intro e
  have h0 : 0 < h := by omega
  have e1 := Nat.div_add_mod a h
  have e2 := Nat.div_add_mod (a + i) h
  rw [e] at e2
  have e3 : h * ((a + i) / h) = h * (a / h) + i := by omega
  rcases Nat.lt_or_ge (a / h) ((a + i) / h) with hl | hl
  · have : h * (a / h + 1) ≤ h * ((a + i) / h) := Nat.mul_le_mul_left h hl
    rw [Nat.mul_add] at this; omega
  · have : h * ((a + i) / h) ≤ h * (a / h) := Nat.mul_le_mul_left h hl
    omega
theorem endsFrom_step {K h j n : Nat} (h0 : 0 < h) (h1 : 1 ≤ n) (hK : n < K) (he : (n - 1) % h = j) : endsFrom K h j n = (97 + n) :: endsFrom K h j (n + h) := by
  rw [endsFrom_take h1 hK he, endsFrom_skips (h - 1) (n + 1) (by omega) (fun i hi => by
    have := mod_add_ne (a := n - 1) (h := h) (i := i + 1) (by omega) (by omega)
    rw [he] at this
    rwa [show n + 1 - 1 + i = n - 1 + (i + 1) by omega])]
  congr 2; omega
theorem endsFrom_start {K h j : Nat} (hj : j < h) : endsFrom K h j (1 + j) = endsL K h j := by
  rw [← endsFrom_one, Nat.add_comm 1 j, Nat.add_comm j 1]
  exact (endsFrom_skips j 1 (by omega) (fun i hi => by
    show (0 + i) % h ≠ j
    rw [Nat.zero_add, Nat.mod_eq_of_lt (by omega)]; omega)).symm
theorem endsL_ne {K h j : Nat} (hj : j < h) (hh : h + 1 ≤ K) : endsL K h j ≠ [] := by
  rw [← endsFrom_start hj, endsFrom_step (by omega) (by omega) (by omega) (by rw [Nat.add_comm, Nat.add_sub_cancel]; exact Nat.mod_eq_of_lt hj)]
  exact List.cons_ne_nil _ _
theorem endsL_mem {K h j c : Nat} : c ∈ endsL K h j ↔ ∃ i, i < K - 1 ∧ i % h = j ∧ c = 98 + i := by
  unfold endsL
  simp only [List.mem_map, List.mem_filter, List.mem_range, decide_eq_true_eq]
  constructor
  · rintro ⟨a, ⟨h1, h2⟩, h3⟩; exact ⟨a, h1, h2, h3.symm⟩
  · rintro ⟨a, h1, h2, h3⟩; exact ⟨a, ⟨h1, h2⟩, h3.symm⟩
end MM
namespace MM
structure Ends (L : Nat) (es : List Nat) : Prop where
  up : es.Pairwise (· < ·)
  lo : ∀ e ∈ es, 98 ≤ e
  hi : ∀ e ∈ es, e < 97 + L
  ne : es ≠ []
def cnt (es : List Nat) (x : Nat) : Nat := (es.filter (fun e => decide (e < x))).length
def ob (L : Nat) (es : List Nat) (N : Nat) : Nat := N / L * es.length + cnt es (97 + N % L)
def ow (L : Nat) (es : List Nat) (w : Nat) : Bool := decide (97 + w % L ∈ es)
def nth (L : Nat) (es : List Nat) (p : Nat) : Nat := p / es.length * L + (es.getD (p % es.length) 0 - 97)
theorem cnt_succ {es : List Nat} (h : es.Pairwise (· < ·)) (x : Nat) : cnt es (x + 1) = cnt es x + (if x ∈ es then 1 else 0) := by
  induction es with
  | nil => rfl
  | cons e r ih =>
    obtain ⟨h1, h2⟩ := List.pairwise_cons.mp h
    have ih := ih h2
    unfold cnt at ih ⊢
    rw [List.filter_cons, List.filter_cons]
    by_cases a : e < x
    · have m : x ∈ e :: r ↔ x ∈ r := by rw [List.mem_cons]; constructor
                                        · rintro (rfl | z)
                                          · omega
                                          · exact z
                                        · exact .inr
      rw [if_pos (by simp; omega), if_pos (by simpa using a), List.length_cons, List.length_cons, ih]
      simp only [m]; omega
    · by_cases b : e = x
      · subst b
        rw [if_pos (by simp), if_neg (by simp)]
        have no : e ∉ r := fun z => by have := h1 e z; omega
        rw [if_neg no] at ih
        rw [List.length_cons, ih, if_pos List.mem_cons_self]
      · have no : x ∉ r := fun z => by have := h1 x z; omega
        rw [if_neg (by simp; omega), if_neg (by simpa using a), ih, if_neg no, if_neg (by rw [List.mem_cons]; rintro (z | z); omega; exact no z)]
theorem cnt_low {es : List Nat} (h : ∀ e ∈ es, 98 ≤ e) : cnt es 97 = 0 := by
  unfold cnt
  rw [List.length_eq_zero_iff, List.filter_eq_nil_iff]
  intro e he; have := h e he; simp only [decide_eq_true_eq]; omega
theorem cnt_all {es : List Nat} {x : Nat} (h : ∀ e ∈ es, e < x) : cnt es x = es.length := by
  unfold cnt
  rw [List.filter_eq_self.mpr (fun e he => by simpa using h e he)]
theorem ob_succ {L : Nat} {es : List Nat} (hL : 0 < L) (E : Ends L es) (w : Nat) : ob L es (w + 1) = ob L es w + (if ow L es w = true then 1 else 0) := by
  unfold ob ow
  have hm := Nat.mod_lt w hL
  simp only [decide_eq_true_eq]
  by_cases h : w % L + 1 < L
  · have e1 : (w + 1) / L = w / L := by rw [Nat.add_div hL]; have : 1 % L = 1 := Nat.mod_eq_of_lt (by omega); rw [this, Nat.div_eq_of_lt (show 1 < L by omega), if_neg (by omega)]; rfl
    have e2 : (w + 1) % L = w % L + 1 := by rw [Nat.add_mod, Nat.mod_eq_of_lt (show 1 < L by omega)]; exact Nat.mod_eq_of_lt h
    rw [e1, e2, show 97 + (w % L + 1) = 97 + w % L + 1 by omega, cnt_succ E.up, Nat.add_assoc]
  · have hl : w % L + 1 = L := by omega
    have hd := Nat.div_add_mod w L
    have e0 : w + 1 = L * (w / L + 1) := by rw [Nat.mul_add]; omega
    have e1 : (w + 1) / L = w / L + 1 := by rw [e0, Nat.mul_div_cancel_left _ hL]
    have e2 : (w + 1) % L = 0 := by rw [e0, Nat.mul_mod_right]
    have e3 := cnt_succ E.up (97 + w % L)
    rw [show 97 + w % L + 1 = 97 + L by omega, cnt_all E.hi] at e3
    rw [e1, e2, Nat.add_zero, cnt_low E.lo, Nat.add_mul, Nat.one_mul, e3]; omega
theorem cnt_at {es : List Nat} (h : es.Pairwise (· < ·)) : ∀ {r : Nat} {x : Nat}, es[r]? = some x → cnt es x = r := by
  induction es with
  | nil => intro r x e; simp at e
  | cons e t ih =>
    intro r x hx
    obtain ⟨h1, h2⟩ := List.pairwise_cons.mp h
    cases r with
    | zero =>
      obtain rfl : e = x := by simpa using hx
      unfold cnt
      rw [List.length_eq_zero_iff, List.filter_eq_nil_iff]
      intro y hy
      rcases List.mem_cons.mp hy with rfl | hy
      · simp
      · have := h1 y hy; simp; omega
    | succ r =>
      have hx' : t[r]? = some x := by simpa using hx
      have := h1 x (List.mem_of_getElem? hx')
      have i2 := ih h2 hx'
      unfold cnt at i2 ⊢
      rw [List.filter_cons_of_pos (by simpa using this), List.length_cons, i2]
theorem nth_ob {L : Nat} {es : List Nat} (hL : 0 < L) (E : Ends L es) {w : Nat} (h : ow L es w = true) : nth L es (ob L es w) = w := by
  have hm : 97 + w % L ∈ es := of_decide_eq_true h
  obtain ⟨r, hr, e⟩ := List.getElem_of_mem hm
  have hx : es[r]? = some (97 + w % L) := by rw [List.getElem?_eq_getElem hr, e]
  have c := cnt_at E.up hx
  unfold nth ob
  rw [c]
  have e1 : (w / L * es.length + r) / es.length = w / L := by rw [Nat.mul_comm, Nat.mul_add_div (by omega), Nat.div_eq_of_lt hr]; rfl
  have e2 : (w / L * es.length + r) % es.length = r := by rw [Nat.mul_comm, Nat.mul_add_mod, Nat.mod_eq_of_lt hr]
  rw [e1, e2, List.getD_eq_getElem?_getD, hx]
  have := Nat.div_add_mod w L
  rw [Nat.mul_comm] at this
  simp only [Option.getD_some]; omega
theorem ob_mono {L : Nat} {es : List Nat} (hL : 0 < L) (E : Ends L es) {a : Nat} : ∀ {b : Nat}, a ≤ b → ob L es a ≤ ob L es b
  | 0, h => by obtain rfl : a = 0 := by omega
               exact Nat.le_refl _
  | b + 1, h => by
    by_cases e : a = b + 1
    · rw [e]; exact Nat.le_refl _
    · have := ob_mono hL E (a := a) (b := b) (by omega)
      rw [ob_succ hL E]; omega
theorem ends_ok {K h j : Nat} (hj : j < h) (hh : h + 1 ≤ K) : Ends K (endsL K h j) where
  up := by
    unfold endsL
    rw [List.pairwise_map]
    refine List.Pairwise.imp ?_ ((List.pairwise_lt_range (n := K - 1)).filter _)
    intro a b hab; omega
  lo := fun e he => by obtain ⟨i, _, _, rfl⟩ := endsL_mem.mp he; omega
  hi := fun e he => by obtain ⟨i, hi, _, rfl⟩ := endsL_mem.mp he; omega
  ne := endsL_ne hj hh
theorem low_snoc {L : Nat} (hL : 0 < L) {i : Nat} (hi : i < L) (q : Nat) : ∀ n, low L (q * L + i) (n + 1) = low L q n ++ [97 + i]
  | 0 => by
    show [97 + (q * L + i) / L ^ 0 % L] = [97 + i]
    rw [Nat.pow_zero, Nat.div_one, Nat.mul_comm, Nat.mul_add_mod, Nat.mod_eq_of_lt hi]
  | n + 1 => by
    rw [low, low_snoc hL hi q n, low, List.cons_append]
    congr 2
    rw [Nat.pow_succ, Nat.mul_comm (L ^ n), ← Nat.div_div_eq_div_mul]
    congr 1
    have : (q * L + i) / L = q := by rw [Nat.mul_comm, Nat.mul_add_div hL, Nat.div_eq_of_lt hi]; rfl
    rw [this]
theorem low_last {L w n : Nat} (hL : 0 < L) : (low L w (n + 1)).getLast? = some (97 + w % L) := by
  have hd := Nat.div_add_mod w L
  have e : w = w / L * L + w % L := by rw [Nat.mul_comm]; omega
  rw [e, low_snoc hL (Nat.mod_lt w hL)]
  simp [Nat.mod_eq_of_lt (Nat.mod_lt w hL)]
theorem mk_low {L w n : Nat} (hL : 0 < L) (h : w % L ≠ 0) : mk L w (n + 1) = low L w (n + 1) := by
  unfold mk
  refine cutA_na fun c hc => ?_
  rw [low_last hL] at hc
  have := Option.some.inj hc; omega
end MM
namespace MM
theorem nth_mod {L : Nat} {es : List Nat} (E : Ends L es) (p : Nat) : nth L es p % L ≠ 0 := by
  have hp : 0 < es.length := List.length_pos_iff.mpr E.ne
  have hm := Nat.mod_lt p hp
  have hx : es[p % es.length]? = some es[p % es.length] := List.getElem?_eq_getElem hm
  have h1 := E.lo _ (List.mem_of_getElem? hx)
  have h2 := E.hi _ (List.mem_of_getElem? hx)
  unfold nth
  rw [List.getD_eq_getElem?_getD, hx, Nat.mul_comm, Nat.mul_add_mod, Option.getD_some, Nat.mod_eq_of_lt (by omega)]
  omega
end MM
namespace MM
theorem ob_nth {L : Nat} {es : List Nat} (hL : 0 < L) (E : Ends L es) (p : Nat) : ob L es (nth L es p) = p ∧ ow L es (nth L es p) = true := by
  have hp : 0 < es.length := List.length_pos_iff.mpr E.ne
  have hm := Nat.mod_lt p hp
  have hx : es[p % es.length]? = some es[p % es.length] := List.getElem?_eq_getElem hm
  have hmem := List.mem_of_getElem? hx
  have h1 := E.lo _ hmem
  have h2 := E.hi _ hmem
  have hc := cnt_at E.up hx
  generalize es[p % es.length] = e at *
  have e0 : nth L es p = p / es.length * L + (e - 97) := by unfold nth; rw [List.getD_eq_getElem?_getD, hx]; rfl
  have e1 : nth L es p / L = p / es.length := by rw [e0, Nat.mul_comm, Nat.mul_add_div hL, Nat.div_eq_of_lt (show e - 97 < L by omega)]; rfl
  have e2 : nth L es p % L = e - 97 := by rw [e0, Nat.mul_comm, Nat.mul_add_mod, Nat.mod_eq_of_lt (by omega)]
  constructor
  · unfold ob
    rw [e1, e2, show 97 + (e - 97) = e by omega, hc, Nat.mul_comm]
    exact Nat.div_add_mod p es.length
  · unfold ow
    rw [e2, show 97 + (e - 97) = e by omega]
    exact decide_eq_true hmem
theorem nth_in {L : Nat} {es : List Nat} (hL : 0 < L) (E : Ends L es) {A B p : Nat} (h1 : ob L es A ≤ p) (h2 : p < ob L es B) : A ≤ nth L es p ∧ nth L es p < B := by
  obtain ⟨o1, o2⟩ := ob_nth hL E p
  constructor
  · by_cases z : A ≤ nth L es p
    · exact z
    · have := ob_mono hL E (show nth L es p + 1 ≤ A by omega)
      rw [ob_succ hL E, if_pos o2, o1] at this
      omega
  · by_cases z : nth L es p < B
    · exact z
    · have := ob_mono hL E (show B ≤ nth L es p by omega)
      omega
end MM
set_option Elab.async false
set_option linter.all false
set_option maxRecDepth 100000
set_option maxHeartbeats 1000000
namespace L2
open PySem PySem.Spec PyProof.Rows
section
variable {X : Cx}
end
section
variable {X : Cx}
end
end L2
set_option Elab.async false
set_option linter.all false
set_option maxRecDepth 100000
set_option maxHeartbeats 1000000
namespace L2
section
open PySem PySem.Spec PyProof.Rows Builtin Builtin.ObjectAttr Builtin.Getset_descriptor
section
variable {prog : Program} {w : World} {A : Around} {E : Value → Shared → Prop} {K : PySem.W.Frag} {x C : Addr} {o : Obj}
end
end
open PySem PySem.Spec PyProof.Rows
section
variable {X : Cx}
end
def rCount (K : PySem.W.Frag) : V → List V → Hp → VK → Prop := fun o vs H Q => ∃ p xs x, o = .ref p ∧ vs = [x] ∧ SqL K H p xs ∧ flatV x = true ∧ xs.all flatV = true ∧ Q (.int ((xs.countP fun y => eqV y x : Nat) : Int)) H
theorem count_eqU {x : V} : ∀ {xs : List V} {us : List Value}, Vals xs us → xs.all flatV = true → us.countP (eqU x) = xs.countP fun y => eqV y x
  | [], us, h, _ => by cases h; rfl
  | y :: xs, us, h, f => by
    cases h with
    | cons h1 h2 =>
      rw [List.all_cons, Bool.and_eq_true] at f
      have a := any_eqU (x := x) (xs := [y]) (.cons h1 .nil) (by rw [List.all_cons, f.1]; rfl)
      rw [List.any_cons, List.any_cons, List.any_nil, List.any_nil, Bool.or_false, Bool.or_false] at a
      rw [List.countP_cons, List.countP_cons, count_eqU h2 f.2, a]
section
variable {X : Cx}
theorem mt_count : MtR X "list.count" (rCount X.K) := by
  intro pins s σ H o vs v us Q I rx rv h
  obtain ⟨p, xs, x, rfl, rfl, hq, fx, fs, q⟩ := h
  cases rx
  obtain ⟨u, rfl, ru⟩ := vals1 rv
  obtain ⟨its, r, pl, hz⟩ := I.list hq
  obtain ⟨ob, n, e, e1, e2, e3⟩ := pl
  obtain ⟨oc, od, oda, osl⟩ := ob
  dsimp only at e1 e2 e3
  subst e1 e3
  refine call_meets F.slot_list_count ⟨_, e, rfl⟩ F.entry_list_count (F.args_list_count_2 _ _) (SeqAt.list_countAt p its.toArray n od osl u (eqU x)) ⟨e, fun y hy => mem_eqAt ru fx r fs y (by simpa using hy), ?_⟩
  refine ⟨.int _, H, I.tok _, ⟨_, rfl⟩, ?_⟩
  rw [show its.toArray.toList = its from rfl, count_eqU r fs]
  exact q
end
end L2
set_option Elab.async false
set_option linter.all false
set_option maxRecDepth 100000
set_option maxHeartbeats 1000000
namespace L2
open PySem PySem.Spec PyProof.Rows
section
variable {X : Cx} {k : Nat} {f C : Addr} {fd : FuncData} {ps : List Str} {sp : Sp} {x m : Str} {p pos apos : Pos} {e o : Expr} {es : List Expr} {ta : TE} {t : TA} {Φ : St → XK → Prop}
end
section
variable {X : Cx} {k : Nat} {f : Addr} {fd : FuncData} {ps : List Str} {sp : Sp} {x : Str} {p pos : Pos} {e : Expr} {es : List Expr} {t : TA}
end
section
variable {X : Cx}
end
end L2
set_option Elab.async false
set_option linter.all false
set_option maxRecDepth 100000
namespace L2
open PySem PySem.Spec PyProof.Rows
section
variable {κ : Type} [DecidableEq κ]
def valV (kvs : List (κ × V)) (k : κ) : Option V := (kvs.find? fun kv => decide (kv.1 = k)).map (·.2)
def putK (kvs : List (κ × V)) (k : κ) (v : V) : List (κ × V) :=
  if (kvs.any fun kv => decide (kv.1 = k)) = true then kvs.map (fun kv => if kv.1 = k then (kv.1, v) else kv) else kvs ++ [(k, v)]
def dropK (kvs : List (κ × V)) (k : κ) : List (κ × V) := kvs.filter fun kv => decide (kv.1 ≠ k)
theorem valV_pos {p : κ × V} {r : List (κ × V)} {k : κ} (e : p.1 = k) : valV (p :: r) k = some p.2 := by simp [valV, List.find?_cons, e]
theorem valV_neg {p : κ × V} {r : List (κ × V)} {k : κ} (e : ¬ p.1 = k) : valV (p :: r) k = valV r k := by simp [valV, List.find?_cons, e]
theorem valV_any (k : κ) : ∀ kvs : List (κ × V), (kvs.any fun kv => decide (kv.1 = k)) = (valV kvs k).isSome
  | [] => rfl
  | p :: r => by
    rw [List.any_cons]
    by_cases e : p.1 = k
    · simp only [valV_pos e, decide_eq_true e, Bool.true_or, Option.isSome_some]
    · rw [valV_neg e, decide_eq_false e, Bool.false_or]; exact valV_any k r
theorem valV_map (k j : κ) (y : V) : ∀ kvs : List (κ × V), valV (kvs.map fun kv => if kv.1 = k then (kv.1, y) else kv) j = (valV kvs j).map fun x => if j = k then y else x
  | [] => rfl
  | p :: r => by
    have ih := valV_map k j y r
    rw [List.map_cons]
    by_cases h : p.1 = k
    · rw [if_pos h]
      by_cases e : p.1 = j
      · rw [valV_pos (p := (p.1, y)) e, valV_pos e, Option.map_some, if_pos (e.symm.trans h)]
      · rw [valV_neg (p := (p.1, y)) e, valV_neg e, ih]
    · rw [if_neg h]
      by_cases e : p.1 = j
      · rw [valV_pos (p := p) e, valV_pos e, Option.map_some, if_neg (fun z => h (e.trans z))]
      · rw [valV_neg (p := p) e, valV_neg e, ih]
theorem valV_snoc (k j : κ) (y : V) : ∀ kvs : List (κ × V), valV kvs k = none → valV (kvs ++ [(k, y)]) j = if j = k then some y else valV kvs j
  | [], _ => by
    by_cases e : k = j
    · rw [if_pos e.symm]; exact valV_pos (p := (k, y)) e
    · rw [if_neg (fun z => e z.symm)]; exact valV_neg (p := (k, y)) e
  | p :: r, hn => by
    rw [List.cons_append]
    have hk : ¬ p.1 = k := fun z => by rw [valV_pos z] at hn; cases hn
    rw [valV_neg hk] at hn
    have ih := valV_snoc k j y r hn
    by_cases e : p.1 = j
    · rw [valV_pos e, valV_pos e, if_neg (fun z => hk (e.trans z))]
    · rw [valV_neg e, valV_neg e, ih]
theorem valV_put (kvs : List (κ × V)) (k j : κ) (y : V) : valV (putK kvs k y) j = if j = k then some y else valV kvs j := by
  unfold putK
  by_cases a : (kvs.any fun kv => decide (kv.1 = k)) = true
  · rw [if_pos a, valV_map]
    rw [valV_any] at a
    by_cases e : j = k
    · obtain ⟨x, hx⟩ := Option.isSome_iff_exists.mp a
      rw [if_pos e, e, hx, Option.map_some, if_pos rfl]
    · rw [if_neg e]
      cases valV kvs j with
      | none => rfl
      | some x => rw [Option.map_some, if_neg e]
  · rw [if_neg a]
    refine valV_snoc k j y kvs ?_
    rw [valV_any] at a
    cases q : valV kvs k with
    | none => rfl
    | some x => rw [q] at a; exact (a rfl).elim
theorem length_putK (kvs : List (κ × V)) (k : κ) (v : V) : (putK kvs k v).length ≤ kvs.length + 1 := by
  unfold putK
  split
  · rw [List.length_map]; omega
  · rw [List.length_append, List.length_cons, List.length_nil]; omega
theorem putK_new {kvs : List (κ × V)} {k : κ} (v : V) (h : valV kvs k = none) : putK kvs k v = kvs ++ [(k, v)] := by
  unfold putK
  rw [valV_any, h]
  exact if_neg (by decide)
theorem RelO.isSome_eq {o : Option V} {u : Option Value} (r : RelO o u) : o.isSome = u.isSome := by
  cases o with
  | none => cases u with
    | none => rfl
    | some _ => exact (show False from r).elim
  | some _ => cases u with
    | none => exact (show False from r).elim
    | some _ => rfl
theorem RelO.getD {o : Option V} {u : Option Value} {d : V} {d' : Value} (r : RelO o u) (rd : RelV d d') : RelV (o.getD d) (u.getD d') := by
  cases o with
  | none => cases u with
    | none => exact rd
    | some _ => exact (show False from r).elim
  | some _ => cases u with
    | none => exact (show False from r).elim
    | some _ => exact r
theorem KV.val {kvs : List (κ × V)} {vs : List (κ × Value)} (r : KV kvs vs) (k : κ) : RelO (valV kvs k) (valueAt vs k) := by
  unfold KV at r
  induction r with
  | nil => exact True.intro
  | @cons p q ps qs h t ih =>
    obtain ⟨h1, h2⟩ := h
    by_cases e : p.1 = k
    · have e' : q.1 = k := h1.symm.trans e
      have b : valueAt (q :: qs) k = some q.2 := by simp [valueAt, List.find?_cons, e']
      rw [valV_pos e, b]; exact h2
    · have e' : ¬ q.1 = k := fun z => e (h1.trans z)
      have b : valueAt (q :: qs) k = valueAt qs k := by simp [valueAt, List.find?_cons, e']
      rw [valV_neg e, b]; exact ih
theorem KV.any {kvs : List (κ × V)} {vs : List (κ × Value)} (r : KV kvs vs) (k : κ) : (kvs.any fun kv => decide (kv.1 = k)) = vs.any fun kv => decide (kv.1 = k) := by
  unfold KV at r
  induction r with
  | nil => rfl
  | cons h t ih => rw [List.any_cons, List.any_cons, ih, h.1]
theorem KV.repl {kvs : List (κ × V)} {vs : List (κ × Value)} (r : KV kvs vs) (k : κ) {y : V} {u : Value} (ry : RelV y u) :
    KV (kvs.map fun kv => if kv.1 = k then (kv.1, y) else kv) (vs.map fun kv => if kv.1 = k then (kv.1, u) else kv) := by
  unfold KV at r ⊢
  induction r with
  | nil => exact .nil
  | @cons p q ps qs h t ih =>
    rw [List.map_cons, List.map_cons]
    refine .cons ?_ ih
    obtain ⟨h1, h2⟩ := h
    by_cases e : p.1 = k
    · rw [if_pos e, if_pos (h1.symm.trans e)]; exact ⟨h1, ry⟩
    · rw [if_neg e, if_neg (fun z => e (h1.trans z))]; exact ⟨h1, h2⟩
theorem KV.put {kvs : List (κ × V)} {vs : List (κ × Value)} (r : KV kvs vs) (k : κ) {y : V} {u : Value} (ry : RelV y u) : KV (putK kvs k y) (stored vs k u) := by
  unfold putK stored
  rw [r.any k]
  by_cases e : (vs.any fun kv => decide (kv.1 = k)) = true
  · rw [if_pos e, if_pos e]; exact r.repl k ry
  · rw [if_neg e, if_neg e]; exact Paired.snoc r ⟨rfl, ry⟩
theorem KV.drop {kvs : List (κ × V)} {vs : List (κ × Value)} (r : KV kvs vs) (k : κ) : KV (dropK kvs k) (without vs k) := by
  unfold KV at r ⊢
  unfold dropK without
  induction r with
  | nil => exact .nil
  | @cons p q ps qs h t ih =>
    obtain ⟨h1, h2⟩ := h
    rw [List.filter_cons, List.filter_cons]
    by_cases e : p.1 = k
    · have a : ¬ decide (p.1 ≠ k) = true := by simp [e]
      have b : ¬ decide (q.1 ≠ k) = true := by simp [h1.symm.trans e]
      rw [if_neg a, if_neg b]; exact ih
    · have e' : ¬ q.1 = k := fun z => e (h1.trans z)
      have a : decide (p.1 ≠ k) = true := by simp [e]
      have b : decide (q.1 ≠ k) = true := by simp [e']
      rw [if_pos a, if_pos b]; exact .cons ⟨h1, h2⟩ ih
theorem KV.keys {kvs : List (κ × V)} {vs : List (κ × Value)} (r : KV kvs vs) : kvs.map (·.1) = vs.map (·.1) := by
  unfold KV at r
  induction r with
  | nil => rfl
  | cons h t ih => rw [List.map_cons, List.map_cons, ih, h.1]
theorem KV.length {kvs : List (κ × V)} {vs : List (κ × Value)} (r : KV kvs vs) : kvs.length = vs.length := Paired.length r
end
theorem kV_is {P : Program} {w : World} {k : Key} {u : Value} (r : RelV (kV k) u) : (mixKind P w).is k u = true := by
  cases k with
  | inl i => obtain ⟨t, e⟩ := (show ∃ t, u = Value.int i t from r); subst e; exact mixKind_int P w i t
  | inr x => obtain ⟨t, e⟩ := (show ∃ t, u = Value.str x t from r); subst e; exact mixKind_str P w x t
  | non => obtain rfl : u = Value.none := r; rfl
theorem items_are {P : Program} {w : World} : ∀ {ks : List Key} {us : List Value}, Vals (ks.map kV) us → ItemsAre (mixKind P w) ks us
  | [], _, r => by rw [List.map_nil] at r; cases r; exact .nil
  | k :: ks, _, r => by
    rw [List.map_cons] at r
    cases r with
    | cons h t => exact .cons (kV_is h) (items_are t)
abbrev KT (H : Hp) : List (List Key × V) → List (List Key × Addr × Value) → Prop := Paired fun p q => p.1 = q.1 ∧ H q.2.1 = some (.tup (p.1.map kV)) ∧ RelV p.2 q.2.2
theorem KT.val {H : Hp} {kvs : List (List Key × V)} {xs : List (List Key × Addr × Value)} (r : KT H kvs xs) (k : List Key) : RelO (valV kvs k) ((atKey xs k).map (·.2)) := by
  induction r with
  | nil => exact True.intro
  | @cons p q ps qs h t ih =>
    obtain ⟨h1, _, h2⟩ := h
    by_cases e : p.1 = k
    · have e' : q.1 = k := h1.symm.trans e
      have b : atKey (q :: qs) k = some q.2 := by simp [atKey, List.find?_cons, e']
      rw [valV_pos e, b]; exact h2
    · have e' : ¬ q.1 = k := fun z => e (h1.trans z)
      have b : atKey (q :: qs) k = atKey qs k := by simp [atKey, List.find?_cons, e']
      rw [valV_neg e, b]; exact ih
theorem KT.repl {H : Hp} {kvs : List (List Key × V)} {xs : List (List Key × Addr × Value)} (r : KT H kvs xs) (k : List Key) {y : V} {u : Value} (ry : RelV y u) :
    KT H (kvs.map fun kv => if kv.1 = k then (kv.1, y) else kv) (xs.map (putAt k u)) := by
  induction r with
  | nil => exact .nil
  | @cons p q ps qs h t ih =>
    rw [List.map_cons, List.map_cons]
    refine .cons ?_ ih
    obtain ⟨h1, h2, h3⟩ := h
    unfold putAt
    by_cases e : p.1 = k
    · rw [if_pos e, if_pos (h1.symm.trans e)]; exact ⟨h1, h2, ry⟩
    · rw [if_neg e, if_neg (fun z => e (h1.trans z))]; exact ⟨h1, h2, h3⟩
theorem KT.put {H : Hp} {kvs : List (List Key × V)} {xs : List (List Key × Addr × Value)} (r : KT H kvs xs) (k : List Key) {b : Addr} {y : V} {u : Value} (hb : H b = some (.tup (k.map kV))) (ry : RelV y u) :
    KT H (putK kvs k y) (storedH xs k b u) := by
  have e : (kvs.any fun kv => decide (kv.1 = k)) = (atKey xs k).isSome := by
    rw [valV_any, (r.val k).isSome_eq, Option.isSome_map]
  unfold putK storedH
  rw [e]
  by_cases q : (atKey xs k).isSome = true
  · rw [if_pos q, if_pos q]; exact r.repl k ry
  · rw [if_neg q, if_neg q]; exact Paired.snoc r ⟨rfl, hb, ry⟩
theorem KT.keeps {H H' : Hp} {kvs : List (List Key × V)} {xs : List (List Key × Addr × Value)} (r : KT H kvs xs) (ht : ∀ b ys, H b = some (.tup ys) → H' b = some (.tup ys)) : KT H' kvs xs :=
  Paired.mapP r fun _ _ z => ⟨z.1, ht _ _ z.2.1, z.2.2⟩
section
variable {P : Program} {w : World} {H : Hp} {h : Heap} {a : Addr}
theorem rd_of {u : HO} (ok : HOk P w H h) (e : Rd H a u) : ObjOk P w H h a u := e.ok ok
theorem dk_rd {kvs : List (Key × V)} (ok : HOk P w H h) (e : Rd H a (.dK kvs)) : kvs.length ≤ sizeLine ∧ (a == sysModules) = false ∧ ∃ vs, KV kvs vs ∧ h.DictOf (mixKind P w) a vs :=
  show ObjOk P w H h a (.dK kvs) from rd_of ok e
theorem dk_of {kvs : List (Key × V)} (ok : HOk P w H h) (e : H a = some (.dK kvs)) : kvs.length ≤ sizeLine ∧ (a == sysModules) = false ∧ ∃ vs, KV kvs vs ∧ h.DictOf (mixKind P w) a vs := dk_rd ok (.inl e)
theorem key_of {ks : List Key} (ok : HOk P w H h) (e : H a = some (.tup (ks.map kV))) : (tupleKind (mixKind P w)).is h ks a := by
  obtain ⟨_, its, r, o, h1, h2, n, h3⟩ := (show ObjOk P w H h a (.tup (ks.map kV)) from ok a _ e)
  exact ⟨o, its.toArray, n, h1, h2, h3, by simpa using items_are r⟩
theorem dt_rd {kvs : List (List Key × V)} (ok : HOk P w H h) (e : Rd H a (.dT kvs)) : kvs.length ≤ sizeLine ∧ (a == sysModules) = false ∧
    ∃ xs, KT H kvs xs ∧ h.DictOfH (tupleKind (mixKind P w)) a xs := by
  obtain ⟨z, y, xs, r, o, es, ep, h1, h2, h3, h4, h5⟩ := (show ObjOk P w H h a (.dT kvs) from rd_of ok e)
  refine ⟨z, y, xs, r, o, es, ep, h1, h2, h3, h4, fun x hx => ?_, h5⟩
  have all : ∀ {l : List (List Key × V)} {m : List (List Key × Addr × Value)}, KT H l m → ∀ x ∈ m, (tupleKind (mixKind P w)).is h x.1 x.2.1 := by
    intro l m q
    induction q with
    | nil => intro x hx; exact nomatch hx
    | @cons p q ps qs hq t ih =>
      intro x hx
      rcases List.mem_cons.mp hx with e | hx
      · subst e
        exact key_of ok (by rw [← hq.1]; exact hq.2.1)
      · exact ih x hx
  exact all r x hx
theorem dt_of {kvs : List (List Key × V)} (ok : HOk P w H h) (e : H a = some (.dT kvs)) : kvs.length ≤ sizeLine ∧ (a == sysModules) = false ∧
    ∃ xs, KT H kvs xs ∧ h.DictOfH (tupleKind (mixKind P w)) a xs := dt_rd ok (.inl e)
end
def DGet (H : Hp) (a : Addr) (y : V) (r : Option V) : Prop :=
  (∃ kvs k, Rd H a (.dK kvs) ∧ y = kV k ∧ r = valV kvs k) ∨ ∃ kvs k b, Rd H a (.dT kvs) ∧ y = .ref b ∧ H b = some (.tup (k.map kV)) ∧ r = valV kvs k
def DPut (H : Hp) (a : Addr) (y v : V) (H' : Hp) : Prop :=
  (∃ kvs k, H a = some (.dK kvs) ∧ y = kV k ∧ kvs.length < sizeLine ∧ H' = upd H a (.dK (putK kvs k v))) ∨
  ∃ kvs k b, H a = some (.dT kvs) ∧ y = .ref b ∧ H b = some (.tup (k.map kV)) ∧ kvs.length < sizeLine ∧ H' = upd H a (.dT (putK kvs k v))
theorem DGet.k {H : Hp} {a : Addr} {kvs : List (Key × V)} {k : Key} (e : H a = some (.dK kvs)) : DGet H a (kV k) (valV kvs k) := .inl ⟨kvs, k, .inl e, rfl, rfl⟩
theorem DGet.t {H : Hp} {a b : Addr} {kvs : List (List Key × V)} {k : List Key} (e : H a = some (.dT kvs)) (eb : H b = some (.tup (k.map kV))) : DGet H a (.ref b) (valV kvs k) := .inr ⟨kvs, k, b, .inl e, rfl, eb, rfl⟩
theorem DPut.k {H : Hp} {a : Addr} {kvs : List (Key × V)} {k : Key} {v : V} (e : H a = some (.dK kvs)) (hl : kvs.length < sizeLine) : DPut H a (kV k) v (upd H a (.dK (putK kvs k v))) := .inl ⟨kvs, k, e, rfl, hl, rfl⟩
theorem DPut.t {H : Hp} {a b : Addr} {kvs : List (List Key × V)} {k : List Key} {v : V} (e : H a = some (.dT kvs)) (eb : H b = some (.tup (k.map kV))) (hl : kvs.length < sizeLine) :
    DPut H a (.ref b) v (upd H a (.dT (putK kvs k v))) := .inr ⟨kvs, k, b, e, rfl, eb, hl, rfl⟩
section
variable {X : Cx} {pins : List (Addr × Obj)} {σ : St} {H : Hp} {s : Shared} {a : Addr} {y v : V} {u r : Value} {o : Option V} {A : Around} {E : Value → Shared → Prop}
theorem Inv.big (I : Inv X pins σ H s) : sysModules < s.heap.objs.size := by
  have h : mainGlobals < s.heap.objs.size := (I.mod.glob.keeps I.bk).lt
  exact Nat.lt_trans (by decide) h
theorem d_getItem {Q : Value → Shared → Prop} (hu : A.units + 1 < cLine) (I : Inv X pins σ H s) (g : DGet H a y (some v)) (ry : RelV y u) (h : ∀ w' s', Inv X pins σ H s' → RelV v w' → Q w' s') :
    wpAny (model X.prog X.w) A (getItem (.ref a) u) Q E s := by
  rcases g with ⟨kvs, k, e, ey, l⟩ | ⟨kvs, k, b, e, ey, eb, l⟩
  · subst ey
    obtain ⟨z, hd, vs, rel, dd⟩ := dk_rd I.hok e
    obtain ⟨w', hw, rw'⟩ := RelO.some_of (v := v) (o := valueAt vs k) (by rw [l]; exact rel.val k)
    exact wpAny_getItem_of (kV_is ry) dd.mapOf hw (h w' _ (I.tok _) rw')
  · subst ey
    cases (show u = Value.ref b from ry)
    obtain ⟨z, hd, xs, rel, dd⟩ := dt_rd I.hok e
    obtain ⟨w', hw, rw'⟩ := RelO.some_of (v := v) (o := (atKey xs k).map (·.2)) (by rw [l]; exact rel.val k)
    obtain ⟨p, hp, hp2⟩ := Option.map_eq_some_iff.mp hw
    refine wpAny_getItem_heap (tupleKind_room_in1 hu) (key_of I.hok eb) dd hp ?_
    rw [hp2]
    exact h w' _ (I.tok _) rw'
theorem d_in {Q : Value → Shared → Prop} (hu : A.units + 1 < cLine) (I : Inv X pins σ H s) (g : DGet H a y o) (ry : RelV y u) (h : ∀ s', Inv X pins σ H s' → Q (.bool o.isSome) s') :
    wpAny (model X.prog X.w) A (compareOp .In u (.ref a)) Q E s := by
  rcases g with ⟨kvs, k, e, ey, l⟩ | ⟨kvs, k, b, e, ey, eb, l⟩
  · subst ey
    obtain ⟨z, hd, vs, rel, dd⟩ := dk_rd I.hok e
    refine wpAny_in_of (kV_is ry) hd dd.mapOf ?_
    rw [← (rel.val k).isSome_eq, ← l]
    exact h _ (I.tok _)
  · subst ey
    cases (show u = Value.ref b from ry)
    obtain ⟨z, hd, xs, rel, dd⟩ := dt_rd I.hok e
    refine wpAny_in_heap (tupleKind_room_in1 hu) (key_of I.hok eb) hd dd ?_
    have q := (rel.val k).isSome_eq
    rw [Option.isSome_map] at q
    rw [← q, ← l]
    exact h _ (I.tok _)
theorem d_notIn {Q : Value → Shared → Prop} (hu : A.units + 1 < cLine) (I : Inv X pins σ H s) (g : DGet H a y o) (ry : RelV y u) (h : ∀ s', Inv X pins σ H s' → Q (.bool (!o.isSome)) s') :
    wpAny (model X.prog X.w) A (compareOp .NotIn u (.ref a)) Q E s := by
  rcases g with ⟨kvs, k, e, ey, l⟩ | ⟨kvs, k, b, e, ey, eb, l⟩
  · subst ey
    obtain ⟨z, hd, vs, rel, dd⟩ := dk_rd I.hok e
    refine wpAny_notIn_of (kV_is ry) hd dd.mapOf ?_
    rw [← (rel.val k).isSome_eq, ← l]
    exact h _ (I.tok _)
  · subst ey
    cases (show u = Value.ref b from ry)
    obtain ⟨z, hd, xs, rel, dd⟩ := dt_rd I.hok e
    refine wpAny_notIn_heap (tupleKind_room_in1 hu) (key_of I.hok eb) hd dd ?_
    have q := (rel.val k).isSome_eq
    rw [Option.isSome_map] at q
    rw [← q, ← l]
    exact h _ (I.tok _)
theorem d_write {h' : Heap} {t' : Nat} {ob : HO} (I : Inv X pins σ H s) (mu : Mut (H a)) (hs : Heap.SameBut a s.heap h') (he : ∃ q, h'.get? a = some q) (new : ObjOk X.prog X.w (upd H a ob) h' a ob) :
    Inv X pins σ (upd H a ob) { s with heap := h', toks := t' } :=
  I.write (x := a) (e := a) mu (.inl rfl) (fun b q hb z => (hs.2 b hb).trans z) he new
theorem dk_new {P : Program} {w : World} {H' : Hp} {h' : Heap} {kvs : List (Key × V)} {vs : List (Key × Value)} (z : kvs.length ≤ sizeLine) (hd : (a == sysModules) = false) (rel : KV kvs vs) (dd : h'.DictOf (mixKind P w) a vs) :
    ObjOk P w H' h' a (.dK kvs) := ⟨z, hd, vs, rel, dd⟩
theorem d_setItem {H' : Hp} {Q : Unit → Shared → Prop} (hu : A.units + 1 < cLine) (I : Inv X pins σ H s) (g : DPut H a y v H') (ry : RelV y u) (rv : RelV v r) (h : ∀ s', Inv X pins σ H' s' → Q () s') :
    wpAny (model X.prog X.w) A (setItem (.ref a) u r) Q E s := by
  rcases g with ⟨kvs, k, e, ey, l, eH⟩ | ⟨kvs, k, b, e, ey, eb, l, eH⟩
  · subst ey eH
    obtain ⟨z, hd, vs, rel, dd⟩ := dk_of I.hok e
    have hz : vs.length ≤ sizeLine := by rw [← rel.length]; exact z
    have hl : (putK kvs k v).length ≤ sizeLine := by have := length_putK kvs k v; omega
    refine wpAny_setItem_pairs (hsz := hz) (kV_is ry) dd fun h' dd' hs => h _ ?_
    have he : ∃ q, h'.get? a = some q := let ⟨q, _, _, hq, _⟩ := dd'; ⟨q, hq⟩
    exact d_write I (by rw [e]; exact True.intro) hs he (dk_new hl hd (rel.put k rv) dd')
  · subst ey eH
    cases (show u = Value.ref b from ry)
    obtain ⟨z, hd, xs, rel, dd⟩ := dt_of I.hok e
    have hz : xs.length ≤ sizeLine := by rw [← Paired.length rel]; exact z
    have hl : (putK kvs k v).length ≤ sizeLine := by have := length_putK kvs k v; omega
    refine wpAny_setItem_heap (hsz := hz) (tupleKind_room_in1 hu) (key_of I.hok eb) dd fun h' dd' hs => h _ ?_
    obtain ⟨q, es, ep, hq, h2, h3, h4, _, h5⟩ := dd'
    refine d_write I (by rw [e]; exact True.intro) hs ⟨q, hq⟩ ⟨hl, hd, _, (rel.put k eb rv).keeps fun c ys ec => ?_, q, es, ep, hq, h2, h3, h4, h5⟩
    rw [upd_ne (ne_of ec e (fun z => nomatch z))]
    exact ec
end
section
variable {X : Cx} {pins : List (Addr × Obj)} {σ : St} {H : Hp} {s : Shared} {a : Addr} {kvs : List (Key × V)} {k : Key} {u : Value} {A : Around} {E : Value → Shared → Prop}
end
def NoSl (i : Expr) : Prop := ∀ ov iv, subscripted i false ov iv = operate [ov, iv] (getItem ov iv)
theorem subD_of {prog : Program} {w : World} {A : Around} {E : Value → Shared → Prop} {s : Shared} {env : Env} {value slice : Expr} {pos : Pos} {T id : String} {Q : Value → Shared → Prop}
    (hl : typeLookup (.type T) "__getitem__" = pure (some (.builtin id))) (hs : NoSl slice)
    (h : wpAny (model prog w) A (eval value env) (fun o s₁ => wpAny (model prog w) A (eval slice env) (fun i s₂ => s₂.TypeIs o T ∧ wpAny (model prog w) A (getItem o i) Q E s₂) E s₁) E s) :
    wpAny (model prog w) A (eval (.Subscript value slice pos) env) Q E s := by
  refine Subscript_ (wpAny_mono h (fun o s₁ h₁ => wpAny_mono h₁ (fun i s₂ h₂ => ?_) fun _ _ x => x) fun _ _ x => x)
  obtain ⟨hT, h₂⟩ := h₂
  unfold subscriptTail
  refine wpAny_bind ?_
  rw [getitemInPython_of_ne hT.not_modules]
  refine wpAny_bind (wpAny_specialOf hT hl ?_)
  have fin : wpAny (model prog w) A (subscripted slice false o i) (fun r s₃ => wpAny (model prog w) A (letTemporaryGo value o r >>= fun _ => pure r) Q E s₃) E s₂ := by
    rw [hs o i]
    exact wpAny_operating (wpAny_mono h₂ (fun r s₃ h₃ => wpAny_bind (wpAny_letTemporaryGo (wpAny_pure h₃))) fun _ _ x => x)
  first
    | exact wpAny_pure (wpAny_bind fin)
    | exact wpAny_bind (wpAny_pure (wpAny_bind fin))
    | exact wpAny_bind fin
theorem dict_typeIs {X : Cx} {pins : List (Addr × Obj)} {σ : St} {H : Hp} {s : Shared} {a : Addr} {y : V} {o : Option V} (I : Inv X pins σ H s) (g : DGet H a y o) : s.TypeIs (.ref a) "dict" := by
  rcases g with ⟨kvs, k, e, _, _⟩ | ⟨kvs, k, b, e, _, _, _⟩
  · obtain ⟨_, _, vs, _, dd⟩ := dk_rd I.hok e
    exact dd.typeIs
  · obtain ⟨_, _, xs, _, dd⟩ := dt_rd I.hok e
    exact dd.typeIs
def tDGet (td ty : TE) : TE := fun σ H Q => td σ H fun x H1 => ty σ H1 fun y H2 => ∃ a v, x = .ref a ∧ DGet H2 a y (some v) ∧ Q v H2
def sDPut (td ty tv : TE) : TS := fun D σ H => tv σ H fun v H1 => td σ H1 fun x H2 => ty σ H2 fun y H3 => ∃ a H4, x = .ref a ∧ DPut H3 a y v H4 ∧ D.nx σ H4
section
variable {X : Cx} {o i e value : Expr} {pos pos' tpos : Pos} {td ty tv : TE}
theorem pe_dget (hu : X.A.units + 1 < cLine) (ho : PE X o td) (hi : PE X i ty) (hs : NoSl i) : PE X (.Subscript o i pos) (tDGet td ty) := by
  intro pins s σ H Q I h
  refine subD_of PySem.F.slot_dict_getitem.lookup hs (thn (ho pins s σ H _ I h) fun u s1 ⟨x, H1, I1, rx, q1⟩ => thn (hi pins s1 σ H1 _ I1 q1) fun iv s2 ⟨y, H2, I2, ry, a, v, ex, g, q2⟩ => ?_)
  subst ex
  obtain rfl : u = Value.ref a := rx
  exact ⟨dict_typeIs I2 g, d_getItem hu I2 g ry fun w' s3 I3 rw' => ⟨v, H2, I3, rw', q2⟩⟩
theorem ps_dput (hu : X.A.units + 1 < cLine) (ho : PE X o td) (hi : PE X i ty) (hv : PE X value tv) (hs : swapsWith value (some (.Subscript o i pos')) pos.line X.env = pure false) :
    PS X (.Assign [.Subscript o i pos'] value pos) (sDPut td ty tv) := by
  intro pins s σ H D I h
  refine wpAny_Assign_Subscript (thn (hv pins s σ H _ I h) fun r s1 ⟨v, H1, I1, rv, q1⟩ => thn (ho pins s1 σ H1 _ I1 q1) fun u s2 ⟨x, H2, I2, rx, q2⟩ => thn (hi pins s2 σ H2 _ I2 q2) fun iv s3 ⟨y, H3, I3, ry, a, H4, ex, g, q3⟩ => ?_) hs
  subst ex
  obtain rfl : u = Value.ref a := rx
  exact d_setItem hu I3 g ry rv fun s4 I4 => ⟨σ, H4, I4, q3⟩
end
theorem dk_empty {P : Program} {w : World} {H : Hp} (h : Heap) (hb : sysModules < h.objs.size) : ObjOk P w H (h.push { cls := .type "dict", data := .dict #[] }) h.objs.size (.dK []) :=
  ⟨Nat.zero_le _, beq_eq_false_iff_ne.mpr (Ne.symm (Nat.ne_of_lt hb)), [], .nil, Heap.DictOf.new h⟩
theorem dt_empty {P : Program} {w : World} {H : Hp} (h : Heap) (hb : sysModules < h.objs.size) : ObjOk P w H (h.push { cls := .type "dict", data := .dict #[] }) h.objs.size (.dT []) :=
  ⟨Nat.zero_le _, beq_eq_false_iff_ne.mpr (Ne.symm (Nat.ne_of_lt hb)), [], .nil, _, #[], 0, Heap.get?_push_size _ rfl, ⟨rfl, rfl, rfl⟩, rfl, rfl, List.nodup_nil⟩
def tDNewK : TE := fun _ H Q => ∀ p, H p = none → Q (.ref p) (upd H p (.dK []))
def tDNewT : TE := fun _ H Q => ∀ p, H p = none → Q (.ref p) (upd H p (.dT []))
section
variable {X : Cx} {pos : Pos}
theorem pe_dnewK : PE X (.Dict [] [] pos) tDNewK := fun pins s σ H Q I h =>
  wpAny_Dict_empty ⟨.ref s.heap.objs.size, _, I.laid (a := s.heap.objs.size) (o := .dK []) (t' := s.toks) (fun _ _ q => Heap.get?_push_of_some _ q) (Nat.le_refl _) (dk_empty s.heap I.big), rfl, h _ (I.hok.fresh (Nat.le_refl _))⟩
theorem pe_dnewT : PE X (.Dict [] [] pos) tDNewT := fun pins s σ H Q I h =>
  wpAny_Dict_empty ⟨.ref s.heap.objs.size, _, I.laid (a := s.heap.objs.size) (o := .dT []) (t' := s.toks) (fun _ _ q => Heap.get?_push_of_some _ q) (Nat.le_refl _) (dt_empty s.heap I.big), rfl, h _ (I.hok.fresh (Nat.le_refl _))⟩
end
section
variable {X : Cx} {pins : List (Addr × Obj)} {σ : St} {H : Hp} {s : Shared} {a : Addr} {y d : V} {u r : Value} {o : Option V} {A : Around} {E : Value → Shared → Prop}
end
section
variable {X : Cx} {o e f : Expr} {apos cpos : Pos} {td ty tx : TE}
end
section
variable {X : Cx} {pins : List (Addr × Obj)} {σ : St} {H : Hp} {s : Shared} {a : Addr} {kvs : List (Key × V)} {A : Around} {E : Value → Shared → Prop}
end
section
variable {X : Cx} {pins : List (Addr × Obj)} {σ : St} {H : Hp} {s : Shared} {a : Addr} {y : V} {u : Value} {A : Around} {E : Value → Shared → Prop}
end
end L2
namespace L2
open PySem PySem.Spec PyProof.Rows
section
variable {κ : Type} [DecidableEq κ]
theorem valV_not {kvs : List (κ × V)} {k : κ} (h : valV kvs k = none) : ¬ k ∈ kvs.map (·.1) := by
  intro m
  obtain ⟨p, hp, e⟩ := List.mem_map.mp m
  have q : (kvs.any fun kv => decide (kv.1 = k)) = true := List.any_eq_true.mpr ⟨p, hp, decide_eq_true e⟩
  rw [valV_any, h] at q
  exact absurd q (by simp)
theorem nd_snoc : ∀ {l : List κ} {k : κ}, l.Nodup → ¬ k ∈ l → (l ++ [k]).Nodup
  | [], k, _, _ => by simp
  | a :: r, k, h, hk => by
    obtain ⟨h1, h2⟩ := List.nodup_cons.mp h
    show (a :: (r ++ [k])).Nodup
    refine List.nodup_cons.mpr ⟨fun m => ?_, nd_snoc h2 fun m => hk (List.mem_cons.mpr (Or.inr m))⟩
    rcases List.mem_append.mp m with q | q
    · exact h1 q
    · exact hk (List.mem_cons.mpr (Or.inl (List.mem_singleton.mp q).symm))
theorem nd_putK {kvs : List (κ × V)} {k : κ} (v : V) (hn : (kvs.map (·.1)).Nodup) (h : valV kvs k = none) : ((putK kvs k v).map (·.1)).Nodup := by
  rw [putK_new v h, List.map_append]
  exact nd_snoc hn (valV_not h)
end
end L2
set_option Elab.async false
set_option linter.all false
set_option maxRecDepth 100000
namespace Rev
open PySem PyProof.Rows PySem.Calls
theorem look_len : typeLookup (.type "list_reverseiterator") "__len__" = pure none := by rw [typeLookup_type, builtinLookup_eq_fast]; kernel_rfl
theorem look_hint : typeLookup (.type "list_reverseiterator") "__length_hint__" = pure (some (.builtin "list_reverseiterator.__length_hint__")) := by rw [typeLookup_type, builtinLookup_eq_fast]; kernel_rfl
section
variable {prog : Program} {w : World} {A : Around} {E : Value → Shared → Prop} {s : Shared} {r l : Addr} {items : Array Value}
theorem hint {Q : Bool → Shared → Prop} (hT : s.TypeIs (.ref r) "list_reverseiterator") (h : Q false s) : wpAny (model prog w) A (Builtin.List.listLengthHint (.ref r)) Q E s := by
  unfold Builtin.List.listLengthHint
  refine wpAny_bind (wpAny_specialOf hT look_len ?_)
  refine wpAny_ite_split (fun hab => absurd hab (by decide)) (fun _ => ?_)
  refine wpAny_ite_split (fun hab => absurd hab (by decide)) (fun _ => ?_)
  refine wpAny_bind (wpAny_specialOf hT look_hint ?_)
  generalize hid : ("list_reverseiterator.__length_hint__" : String) = id0
  wp_delta
  rw [show splitId id0 = some ("list_reverseiterator", "__length_hint__") from by subst hid; decide +kernel]
  subst hid
  refine wpAny_bind (wpAny_isInstance (T := "list_reverseiterator") (b := true) hT (by rw [isSubtype_type]; kernel_rfl) ?_)
  refine wpAny_ite_split (fun hab => absurd hab (by decide)) (fun _ => ?_)
  refine wpAny_ite_split (fun _ => ?_) (fun hab => absurd (by decide +kernel) hab)
  refine wpAny_ite_split (fun hab => absurd hab (by decide +kernel)) (fun _ => ?_)
  exact wpAny_pure h
theorem extend {R : Result → Shared → Prop} (hh : A.handled = none) (hit : s.heap.IsRevIter r l ((items.size : Int) - 1)) (hl : s.heap.IsList l items) (hne : l ≠ r) (S : Addr) (hSr : S ≠ r) (hSl : S ≠ l) (res : Value) (c₀ : Nat)
    (hS : s.heap.get? S = some { cls := .type "list", data := .seq #[] c₀ })
    (hR : ∀ h' tk acc' c', (∀ b o, b ≠ S → b ≠ r → s.heap.get? b = some o → h'.get? b = some o) → h'.get? S = some { cls := .type "list", dict := none, data := .seq acc' c', slots := #[] } → ItemsOf (fun i v => items[items.size - 1 - i]? = some v) acc' items.size → R (.ok (.ret res)) { s with heap := h', toks := tk })
    (hn : items.size ≤ sizeLine) :
    wpAny (model prog w) A.in1 (Builtin.List.listExtendWith (.ref S) (.ref r) res)
      (fun fin s' => match fin with | .done f => R (.ok f) s' | .again c' => c'.quiet = true ∧ codeAny (model prog w) A c' R s') (fun e s' => R (.error e) s') s := by
  have hSf : S ∉ [r, l] := by simp only [List.mem_cons, List.not_mem_nil, or_false, not_or]; exact ⟨hSr, hSl⟩
  have W := Walks.listRev (prog := prog) (w := w) (A := A.in1) hh r l hne items
  have st : (0 ≤ items.size ∧ s.heap.IsRevIter r l ((items.size : Int) - 1 - ((0 : Nat) : Int)) ∧ s.heap.IsList l items) := ⟨Nat.zero_le _, by simpa using hit, hl⟩
  have key : ∀ (h : Heap) (c₁ tk : Nat), (0 ≤ items.size ∧ h.IsRevIter r l ((items.size : Int) - 1 - ((0 : Nat) : Int)) ∧ h.IsList l items) → (∀ b o, b ≠ S → b ≠ r → s.heap.get? b = some o → h.get? b = some o) →
      h.get? S = some { cls := .type "list", data := .seq #[] c₁ } → codeAny (model prog w) A (.builtin "list.extend.loop" ⟨[.ref S, .ref r, res], []⟩) R { s with heap := h, toks := tk } := by
    intro h c₁ tk hst hk hS₁
    refine codeAny_extend_loopS W.toS hn S hSf res items.size 0 _ #[] c₁ rfl (Nat.zero_le _) hst hS₁ (ItemsOf.nil _) fun s' acc' c' hm hS' hacc => ?_
    rw [Moved.eq_with hm]
    refine hR s'.heap s'.toks acc' c' (fun b o hb hb2 e => hm.heap b o (fun hmem => ?_) (hk b o hb hb2 e)) hS' hacc
    rcases List.mem_cons.mp hmem with e' | hmem
    · exact hb e'
    · exact hb2 (List.mem_singleton.mp hmem)
  unfold Builtin.List.listExtendWith
  refine wpAny_bind (wpAny_typeOf (T := "list_reverseiterator") hit.typeIs ?_)
  have h1 : Builtin.List.listSameRef (.ref S) (.ref r) = false := by simp [Builtin.List.listSameRef, hSr]
  have h2 : (Value.type "list_reverseiterator" == Value.type "list") = false := by decide
  have h3 : (Value.type "list_reverseiterator" == Value.type "tuple") = false := by decide
  simp only [h1, h2, h3, Bool.or_false, Bool.false_eq_true, if_false]
  refine wpAny_bind (wpAny_pyIter_revIter hit ?_)
  refine wpAny_bind (wpAny_holding (hint hit.typeIs ?_))
  refine wpAny_ite_split (fun _ => ?_) (fun _ => wpAny_pure ⟨plainId_quiet PySem.F.plain_extend_loop _, key _ c₀ _ st (fun b o _ _ e => e) hS⟩)
  refine wpAny_bind (wpAny_rule ?_)
  refine wpAny_bind ?_
  show wpAny _ _ (updateSeq S (·.push .none) >>= fun _ => updateSeq S (·.pop)) _ _ _
  refine wpAny_bind (wpAny_updateSeq hS rfl ?_)
  have hS₂ := Heap.get?_update_self (Obj.mapSeq (·.push Value.none)) hS rfl
  refine wpAny_updateSeq (hz := by seq_fits) hS₂ rfl ?_
  have hS₃ := Heap.get?_update_self (Obj.mapSeq (·.pop)) hS₂ rfl
  refine wpAny_pure ⟨plainId_quiet PySem.F.plain_extend_loop _, key _ _ _ ?_ (fun b o hb _ e => ?_) hS₃⟩
  · refine W.frame 0 _ _ st fun b hb o e => ?_
    have hbS : b ≠ S := fun h => hSf (h ▸ hb)
    exact (Heap.get?_update_other _ _ (Ne.symm hbS)).trans ((Heap.get?_update_other _ _ (Ne.symm hbS)).trans e)
  · exact (Heap.get?_update_other _ _ (Ne.symm hb)).trans ((Heap.get?_update_other _ _ (Ne.symm hb)).trans e)
theorem init {R : Result → Shared → Prop} (hh : A.handled = none) (hit : s.heap.IsRevIter r l ((items.size : Int) - 1)) (hl : s.heap.IsList l items) (hne : l ≠ r) (S : Addr) (hSr : S ≠ r) (hSl : S ≠ l) (hS : s.heap.get? S = some { cls := .type "list", data := .seq #[] })
    (hR : ∀ h' tk acc' c', (∀ b o, b ≠ S → b ≠ r → s.heap.get? b = some o → h'.get? b = some o) → h'.get? S = some { cls := .type "list", dict := none, data := .seq acc' c', slots := #[] } → ItemsOf (fun i v => items[items.size - 1 - i]? = some v) acc' items.size → R (.ok (.ret .none)) { s with heap := h', toks := tk })
    (hn : items.size ≤ sizeLine) :
    wpAny (model prog w) A.in1 (Builtin.«list.__init__» ⟨[.ref S, .ref r], []⟩)
      (fun fin s' => match fin with | .done f => R (.ok f) s' | .again c' => c'.quiet = true ∧ codeAny (model prog w) A c' R s') (fun e s' => R (.error e) s') s := by
  show wpAny _ _ (do let old ← Builtin.List.listItems (.ref S); Builtin.List.listUpdate (.ref S) (fun _ => #[]); letGo old.toList.reverse; Builtin.List.listExtendWith (.ref S) (.ref r) .none) _ _ s
  refine wpAny_bind ?_
  unfold Builtin.List.listItems
  refine wpAny_bind (wpAny_seqItems hS rfl (wpAny_pure ?_))
  show wpAny _ _ (updateSeq S (fun _ => #[]) >>= fun _ => letGo (#[] : Array Value).toList.reverse >>= fun _ => Builtin.List.listExtendWith (.ref S) (.ref r) .none) _ _ s
  refine wpAny_bind (wpAny_updateSeq hS rfl ?_)
  have hS₂ := Heap.get?_update_self (Obj.mapSeq (fun _ => (#[] : Array Value))) hS rfl
  have oth : ∀ b o, b ≠ S → s.heap.get? b = some o → (s.heap.update S (Obj.mapSeq (fun _ => (#[] : Array Value)))).get? b = some o :=
    fun b o hb e => (Heap.get?_update_other _ _ (Ne.symm hb)).trans e
  refine wpAny_bind (wpAny_letGo ?_)
  refine extend hh (hit.at fun o e => oth r o hSr.symm e) (hl.at fun o e => oth l o hSl.symm e) hne S hSr hSl .none _ hS₂ (fun h' tk acc' c' hk hS' hacc => ?_) hn
  exact hR h' tk acc' c' (fun b o hb hb2 e => hk b o hb hb2 (oth b o hb e)) hS' hacc
theorem call_list {Q : Value → Shared → Prop} (hh : A.handled = none) (hit : s.heap.IsRevIter r l ((items.size : Int) - 1)) (hl : s.heap.IsList l items) (hne : l ≠ r) (hn : items.size ≤ sizeLine)
    (hQ : ∀ h' tk acc' c', (∀ b o, b ≠ r → s.heap.get? b = some o → h'.get? b = some o) → h'.get? s.heap.objs.size = some { cls := .type "list", dict := none, data := .seq acc' c', slots := #[] } → ItemsOf (fun i v => items[items.size - 1 - i]? = some v) acc' items.size → Q (.ref s.heap.objs.size) { s with heap := h', toks := tk }) :
    wpAny (model prog w) A (call (.type "list") [.ref r]) Q E s := by
  refine callType_codes (Q₁ := fun obj s₁ => obj = .ref s.heap.objs.size ∧ s₁ = { s with heap := s.heap.push { cls := .type "list", data := .seq #[] } }) PySem.F.called_list (PySem.F.typeCall_list_1 _) PySem.F.entry_list_init
    (code_list_new _ ⟨rfl, rfl⟩) fun obj s₁ h₁ => ?_
  obtain ⟨rfl, rfl⟩ := h₁
  have hS : (s.heap.push { cls := .type "list", data := .seq #[] }).get? s.heap.objs.size = some { cls := .type "list", data := .seq #[] } := Heap.get?_push_size _ rfl
  have h1 : r < s.heap.objs.size := let ⟨_, e, _⟩ := hit; Heap.lt_size e
  have h2 : l < s.heap.objs.size := let ⟨_, e, _⟩ := hl; Heap.lt_size e
  refine ⟨⟨_, hS, rfl⟩, PySem.F.args_list_init_2 _ _, init (A := A.in1) hh (hit.at fun o e => Heap.get?_push_of_some _ e) (hl.at fun o e => Heap.get?_push_of_some _ e) hne _ (Nat.ne_of_gt h1) (Nat.ne_of_gt h2) hS (fun h' tk acc' c' hk hS' hacc => ?_) hn⟩
  exact ⟨rfl, hQ h' tk acc' c' (fun b o hb e => hk b o (Nat.ne_of_lt (Heap.lt_size e)) hb (Heap.get?_push_of_some _ e)) hS' hacc⟩
theorem sortedD {K : Type} [DecidableEq K] {knd : PySem.KeyKind prog w K} {d : Addr} {kvs : List (K × Value)} {ep : Nat} {Q : Value → Shared → Prop} (hh : A.handled = none) (lo : (d == sysModules) = false) (hd : s.heap.DictAt knd d kvs ep) (h64 : kvs.length < 64)
    {ss : List Str} (hs : ∀ us : List Value, us.length = kvs.length → (∀ (j : Nat) (v : Value), us[j]? = some v → ∃ (k : K) (x : Value), kvs[j]? = some (k, x) ∧ knd.is k v = true) → StrsAre us ss)
    (hQ : ∀ (h1 h' : Heap) (tk : Nat) (e : Nat) (out : Array Value) (ss' : List Str), (∀ b o, s.heap.get? b = some o → h1.get? b = some o) → (∀ b o, h1.get? b = some o → h'.get? b = some o) →
      h'.get? h1.objs.size = some (seqObj "list" out e) → StrsAre out.toList ss' → ss'.Perm ss → sortedS ss' = true → Q (.ref h1.objs.size) { s with heap := h', toks := tk }) :
    wpAny (model prog w) A (call (.builtin "sorted") [.ref d]) Q E s := by
  have hn : kvs.length ≤ sizeLine := by rw [sizeLine_eq]; omega
  refine call_function_entry kind_sorted plain_sorted entry_sorted (args_sorted1 _) ?_
  unfold Builtin.«sorted»
  refine wpAny_bind (m := checkCount "sorted" 1 1 _) (wpAny_pure ?_)
  refine wpAny_bind (W.kdu_collect (A := A.in1) (W.kdl_dict (knd := knd) (kvs := kvs) (ep := ep) lo) hh hd hn fun h1 tk acc hk hacc => ?_)
  have hl : acc.toList.length = kvs.length := by rw [Array.length_toList]; exact hacc.1
  have hS := hs acc.toList hl fun j v e => hacc.2 j v (by rw [← Array.getElem?_toList]; exact e)
  refine wpAny_bind (wpAny_newList ?_ (by rw [hl]; exact hn))
  have ho : (h1.push { cls := .type "list", data := .seq acc.toList.toArray }).get? h1.objs.size = some (seqObj "list" acc.toList.toArray 0) := Heap.get?_push_size _ rfl
  refine wpAny_bind (wpAny_holding (wpAny_call_entry slot_list_sort ⟨_, ho, rfl⟩ entry_list_sort (list_sort_treeK strKind_oneLt ho hS.keysOf (fun v₁ v₂ rest e => keyKind_strs (by rw [← e]; exact hS)) (by rw [hl]; exact h64) fun st' a1 a2 => ⟨_, rfl, ?_⟩) (args_list_sort _)))
  obtain ⟨ss', q1, q2, q3⟩ := sorted_out_str hS a1 a2
  obtain ⟨e, he⟩ := sortedHeap_at (out := (arrOf st').map (·.2)) ho
  refine wpAny_pure ⟨_, rfl, hQ h1 _ tk e _ ss' hk (fun b o hb => ?_) he q1 q2 q3⟩
  have hlt := Heap.lt_size hb
  rw [sortedHeap_old (Nat.ne_of_lt hlt) (by rw [size_push']; exact Nat.lt_succ_of_lt hlt)]
  exact Heap.get?_push_of_some _ hb
end
end Rev
set_option Elab.async false
set_option linter.all false
set_option maxRecDepth 100000
namespace L2
open PySem PySem.Spec PyProof.Rows
section
variable {X : Cx}
def tListRev (K : PySem.W.Frag) (ta : TA) : TE := fun σ H Q => ta σ H fun vs H1 => ∃ a xs, vs = [.ref a] ∧ SqL K H1 a xs ∧ ∀ p, H1 p = none → Q (.ref p) (upd H1 p (.lst xs.reverse))
theorem rev_items {its : List Value} {acc : Array Value} (h : ItemsOf (fun i v => its.toArray[its.toArray.size - 1 - i]? = some v) acc its.toArray.size) : acc.toList = its.reverse := by
  obtain ⟨h1, h2⟩ := h
  have hz : acc.toList.length = its.length := by rw [Array.length_toList, h1]; simp
  apply List.ext_getElem?
  intro i
  by_cases hi : i < its.length
  · obtain ⟨v, hv⟩ : ∃ v, acc.toList[i]? = some v := ⟨_, List.getElem?_eq_getElem (by omega)⟩
    have := h2 i v (by rw [← Array.getElem?_toList]; exact hv)
    rw [hv, List.getElem?_reverse hi, ← this]
    simp
  · rw [List.getElem?_eq_none (by omega), List.getElem?_eq_none (by rw [List.length_reverse]; omega)]
theorem pe_listRev (hc : X.calm = true) {a : Expr} {ta : TA} {p pos p2 pos2 : Pos} (hgl : Gl X "list") (hml : X.mg "list" = none) (hg : Gl X "reversed") (hm : X.mg "reversed" = none) (ha : PA X [a] ta)
    (hs : starEach [a] X.env = (false, eval a X.env) :: starEach [] X.env) (hs2 : ((backTo pos2 (starEach [] X.env)).any fun x => x.fst) = false)
    (he : starEach [.Call (.Name "reversed" p2) [a] [] pos2] X.env = (false, eval (.Call (.Name "reversed" p2) [a] [] pos2) X.env) :: starEach [] X.env) (hpl : (backTo pos (starEach [] X.env)).any (·.1) = false) :
    PE X (.Call (.Name "list" p) [.Call (.Name "reversed" p2) [a] [] pos2] [] pos) (tListRev X.K ta) := by
  intro pins s σ H Q I h
  refine wpAny_Call_Name_kw (ld_blt I hgl hml PyProof.Rows.Boot.«list» ?_ (by decide) (by decide))
  refine PyProof.Rows.callWith_type1 ?_ he hpl
  rw [he]
  refine Calls.spliced_cons ?_
  refine Call_ (ld_blt I hg hm boot_reversed (PyProof.Rows.callWith_type1 (thn (ha pos2 pins s σ H _ I h) fun us s1 ⟨vs, H1, I1, r1, q1⟩ => ?_) hs hs2))
  obtain ⟨l, xs, e, hq, q⟩ := q1
  subst e
  cases r1 with
  | cons r rr =>
    cases rr
    cases r
    obtain ⟨its, rv, pl, hz⟩ := I1.list hq
    have hl := rv.length
    refine call_reversed_list pl.isList ?_
    refine Calls.spliced_nil ?_
    have hlt : l < s1.heap.objs.size := let ⟨_, e, _⟩ := pl.isList; Heap.lt_size e
    refine Rev.call_list (I1.ok.hd hc) (l := l) (items := its.toArray) ⟨_, Heap.get?_push_size _ rfl, rfl, rfl⟩ (pl.isList.at fun o e => Heap.get?_push_of_some _ e) (Nat.ne_of_lt hlt) (by rw [List.size_toArray]; omega) fun h' tk acc c' hk ho hI => ?_
    have e := rev_items hI
    have hp : s1.heap.objs.size ≤ (s1.heap.push (revObj l ((its.toArray.size : Int) - 1))).objs.size := by rw [size_push']; exact Nat.le_succ _
    refine ⟨.ref _, _, I1.laid (t' := tk) (o := .lst xs.reverse) (fun b o eb => hk b o (Nat.ne_of_lt (Heap.lt_size eb)) (Heap.get?_push_of_some _ eb)) hp ⟨?_, acc.toList, c', by rw [e]; exact rv.reverse, by simpa using ho⟩, rfl, q _ (I1.hok.fresh hp)⟩
    rw [List.length_reverse]
    omega
theorem ke_listRev (hc : X.calm = true) {a : Expr} {p pos p2 pos2 : Pos} {ta : TA} (hml : X.mg "list" = none) (hm : X.mg "reversed" = none) (ha : QA X [a] ta) (hgl : X.env.kindOf "list" = some .globalImplicit := by kernel_rfl) (hg : X.env.kindOf "reversed" = some .globalImplicit := by kernel_rfl)
    (hs : starEach [a] X.env = (false, eval a X.env) :: starEach [] X.env := by kernel_rfl) (hs2 : ((backTo pos2 (starEach [] X.env)).any fun x => x.fst) = false := by kernel_rfl)
    (he : starEach [.Call (.Name "reversed" p2) [a] [] pos2] X.env = (false, eval (.Call (.Name "reversed" p2) [a] [] pos2) X.env) :: starEach [] X.env := by kernel_rfl) (hpl : (backTo pos (starEach [] X.env)).any (·.1) = false := by kernel_rfl) :
    QE X (.Call (.Name "list" p) [.Call (.Name "reversed" p2) [a] [] pos2] [] pos) (tListRev X.K ta) := ⟨pe_listRev hc hgl hml hg hm ha.p hs hs2 he hpl⟩
def Itv (K : PySem.W.Frag) (a : Addr) (xs : List V) : It := ⟨fun i H => SqL K H a xs ∧ i < xs.length, fun i H x H' => H' = H ∧ xs.reverse[i]? = some x, fun i H => SqL K H a xs ∧ xs.length ≤ i⟩
theorem turn_rev {P : Program} {w : World} {K : PySem.W.Frag} {tg : Expr} (a it : Addr) (xs : List V) : Turn P w K tg (Itv K a xs) [it] it (fun i h => i ≤ xs.length ∧ h.IsRevIter it a ((xs.length : Int) - 1 - (i : Int))) where
  mem := by simp
  obj := fun i h st b hb => by
    have e : b = it := by simpa using hb
    subst e
    obtain ⟨_, o, e, c, d⟩ := st
    exact ⟨o, e, fun v z => by rw [d] at z; cases z⟩
  keep := fun i h h' st k => ⟨st.1, st.2.at fun o e => k it (by simp) o e⟩
  item := by
    intro X hP hw hK hc i pins s σ H E I hf st hg
    subst hP hw hK
    obtain ⟨hq, hx⟩ := hg
    obtain ⟨its, rv, p, hz⟩ := I.list hq
    have hl := rv.length
    have hx' : xs.length - 1 - i < xs.length := by omega
    obtain ⟨u, hu, ru⟩ := rv.get (i := xs.length - 1 - i) (x := xs[xs.length - 1 - i]) (List.getElem?_eq_getElem hx')
    obtain ⟨f0, f1, f2, f3, f4, f5⟩ := hf it (by simp)
    obtain ⟨st1, st2⟩ := st
    have e : (xs.length : Int) - 1 - (i : Int) = ((xs.length - 1 - i : Nat) : Int) := by omega
    rw [e] at st2
    refine wpAny_pyNext_rev_item st2 p.isList (x := u) (by simpa using hu) fun h' st' sb => ?_
    have I1 : Inv X pins σ H { s with heap := h' } := I.turned (t' := s.toks) (fun b o hb e => (sb.2 b hb).trans e) f0 f1 f3 f4 f5
    have e2 : ((xs.length - 1 - i : Nat) : Int) - 1 = (xs.length : Int) - 1 - ((i + 1 : Nat) : Int) := by omega
    rw [e2] at st'
    obtain ⟨o, e, c, d⟩ := id st'
    exact ⟨u, rfl, go_of (s := { s with heap := h' }) e c d (by decide) ⟨xs[xs.length - 1 - i], H, I1, ru, ⟨rfl, by rw [List.getElem?_reverse hx, List.getElem?_eq_getElem hx']⟩, ⟨hx, st'⟩, fun b hb => (hf b hb).1⟩⟩
  done := by
    intro X hP hw hK hc i pins s σ H E I hf st hg
    subst hP hw hK
    obtain ⟨hq, hx⟩ := hg
    obtain ⟨f0, f1, f2, f3, f4, f5⟩ := hf it (by simp)
    obtain ⟨st1, st2⟩ := st
    have e : (xs.length : Int) - 1 - (i : Int) = -1 := by omega
    rw [e] at st2
    exact wpAny_pyNext_rev_end (I.ok.hd hc) st2 fun h' eb => ⟨rfl, I.turned (t' := s.toks) (fun b o hb e => eb b o hb e) f0 f1 f3 f4 f5⟩
  self := fun _ _ _ _ _ st h => wpAny_pyIter_revIter st.2 h
def iRev (K : PySem.W.Frag) (ta : TA) : TI := fun σ H R => ta σ H fun vs H1 => ∃ a xs, vs = [.ref a] ∧ SqL K H1 a xs ∧ R (Itv K a xs) H1
theorem pi_rev {tg a : Expr} {ta : TA} {p pos : Pos} (hg : Gl X "reversed") (hm : X.mg "reversed" = none) (ha : PA X [a] ta) (hs : starEach [a] X.env = [(false, eval a X.env)] := by rfl) : PI X tg (.Call (.Name "reversed" p) [a] [] pos) (iRev X.K ta) := by
  intro pins s σ H R I h
  refine Call_ (ld_blt I hg hm boot_reversed (PyProof.Rows.callWith_type1 (thn (ha pos pins s σ H _ I h) fun us s1 ⟨vs, H1, I1, r1, q1⟩ => ?_) hs rfl))
  obtain ⟨l, xs, e, hq, q⟩ := q1
  subst e
  cases r1 with
  | cons r rr =>
    cases rr
    cases r
    obtain ⟨its, rv, pl, hz⟩ := I1.list hq
    have hl := rv.length
    refine call_reversed_list pl.isList ?_
    have hz2 : ((its.toArray.size : Nat) : Int) - 1 = (xs.length : Int) - 1 - ((0 : Nat) : Int) := by rw [List.size_toArray]; omega
    rw [hz2]
    have hit : (s1.heap.push (revObj l ((xs.length : Int) - 1 - ((0 : Nat) : Int)))).IsRevIter s1.heap.objs.size l ((xs.length : Int) - 1 - ((0 : Nat) : Int)) := ⟨_, Heap.get?_push_size _ rfl, rfl, rfl⟩
    refine wpAny_pyIter_revIter hit ?_
    refine ⟨s1.heap.objs.size, [s1.heap.objs.size], _, _, H1, rfl, I1.kept (t' := s1.toks) fun b o e => Heap.get?_push_of_some _ e, turn_rev l _ xs, ⟨Nat.zero_le _, hit⟩, fun b hb => ?_, q⟩
    have e : b = s1.heap.objs.size := by simpa using hb
    subst e
    exact I1.fpOk (Nat.le_refl _) (I1.hok.fresh (Nat.le_refl _))
theorem ki_rev {tg a : Expr} {ta : TA} {p pos : Pos} (hm : X.mg "reversed" = none) (ha : QA X [a] ta) (hg : X.env.kindOf "reversed" = some .globalImplicit := by kernel_rfl) (hs : starEach [a] X.env = [(false, eval a X.env)] := by kernel_rfl) :
    QI X tg (.Call (.Name "reversed" p) [a] [] pos) (iRev X.K ta) := ⟨pi_rev hg hm ha.p hs⟩
theorem for_rev {K : PySem.W.Frag} {ta : TA} {g : TG} {tb : TS} {D : Ends} {σ : St} {H : Hp} {a : Addr} {xs : List V} (ha : ∀ Q : List V → Hp → Prop, Q [.ref a] H → ta σ H Q) (hx : SqL K H a xs)
    (Pv : Nat → St → Hp → Prop) (h0 : Pv 0 σ H) (hl : ∀ i σ H, i ≤ xs.length → Pv i σ H → SqL K H a xs)
    (hs : ∀ i x σ H, xs.reverse[i]? = some x → Pv i σ H → g x σ H fun σ2 H2 => tb { D with nx := Pv (i + 1), ct := Pv (i + 1), bk := D.nx } σ2 H2) (hd : ∀ σ H, Pv xs.length σ H → D.nx σ H) :
    tFor (iRev K ta) g tb D σ H := by
  refine ha _ ⟨a, xs, rfl, hx, fun i m σ H => m = xs.length - i ∧ i ≤ xs.length ∧ Pv i σ H, ⟨xs.length, by simp, Nat.zero_le _, h0⟩, ?_⟩
  rintro i m σ H ⟨rfl, hi, p⟩
  have q := hl i σ H hi p
  by_cases hlt : i < xs.length
  · refine .inr ⟨⟨q, hlt⟩, Pv (i + 1), fun σ' H' p' => ⟨xs.length - (i + 1), by omega, rfl, hlt, p'⟩, fun x H' y => ?_⟩
    obtain ⟨e, y⟩ := y
    subst e
    exact hs i x σ _ y p
  · have e : i = xs.length := by omega
    subst e
    exact .inl ⟨⟨q, Nat.le_refl _⟩, hd σ H p⟩
abbrev rInD (n : Bool) : R2 := fun y x H Q => ∃ a o, x = .ref a ∧ DGet H a y o ∧ Q (.bl (o.isSome != n)) H
theorem op_inD (hu : X.A.units + 64 < cLine) : OpR X (compareOp .In) (rInD false) := by
  intro pins s σ H y x u v Q I ry rx h
  obtain ⟨a, o, rfl, g, q⟩ := h
  obtain rfl : v = Value.ref a := rx
  exact d_in (by omega) I g ry fun s' I' => ⟨.bl o.isSome, H, I', rfl, by cases o <;> exact q⟩
theorem op_notInD (hu : X.A.units + 64 < cLine) : OpR X (compareOp .NotIn) (rInD true) := by
  intro pins s σ H y x u v Q I ry rx h
  obtain ⟨a, o, rfl, g, q⟩ := h
  obtain rfl : v = Value.ref a := rx
  exact d_notIn (by omega) I g ry fun s' I' => ⟨.bl (!o.isSome), H, I', rfl, by cases o <;> exact q⟩
theorem ke_dget {o i : Expr} {td ty : TE} {pos : Pos} (hu : X.A.units + 64 < cLine) (ho : QE X o td) (hi : QE X i ty) (hs : NoSl i := by intro _ _; kernel_rfl) : QE X (.Subscript o i pos) (tDGet td ty) := ⟨pe_dget (by omega) ho.p hi.p hs⟩
theorem ks_dput {o i value : Expr} {td ty tv : TE} {pos pos' : Pos} (hu : X.A.units + 64 < cLine) (ho : QE X o td) (hi : QE X i ty) (hv : QE X value tv) (hs : swapsWith value (some (.Subscript o i pos')) pos.line X.env = pure false := by kernel_rfl) :
    QS X (.Assign [.Subscript o i pos'] value pos) (sDPut td ty tv) := ⟨ps_dput (by omega) ho.p hi.p hv.p hs⟩
theorem ke_dnewK {pos : Pos} : QE X (.Dict [] [] pos) tDNewK := ⟨pe_dnewK⟩
theorem ke_dnewT {pos : Pos} : QE X (.Dict [] [] pos) tDNewT := ⟨pe_dnewT⟩
abbrev rSortedD : List V → Hp → VK → Prop := fun xs H Q => ∃ p, ∃ kvs : List (List Nat × V), xs = [.ref p] ∧ H p = some (.dK (kvs.map fun kv => (Key.inr (txt kv.1), kv.2))) ∧ kvs.length < 64 ∧
  ∀ l, ∀ zs : List (List Nat), H l = none → zs.Perm (kvs.map (·.1)) → zs.Pairwise (· ≤ ·) → Q (.ref l) (upd H l (.lst (zs.map strV)))
theorem strs_keys {P : Program} {w : World} : ∀ {kvs : List (List Nat × V)} {vs : List (Key × Value)}, KV (kvs.map fun kv => (Key.inr (txt kv.1), kv.2)) vs → ∀ us : List Value, us.length = vs.length → (∀ (j : Nat) (v : Value), us[j]? = some v → ∃ (k : Key) (x : Value), vs[j]? = some (k, x) ∧ (mixKind P w).is k v = true) → StrsAre us ((kvs.map (·.1)).map txt)
  | [], _, r, us, h1, h2 => by
    cases r
    have : us = [] := List.length_eq_zero_iff.mp (by simpa using h1)
    subst this
    exact .nil
  | kv :: kvs, _, r, us, h1, h2 => by
    rw [List.map_cons] at r
    cases r with
    | @cons p q ps qs hh tt =>
      cases us with
      | nil => simp at h1
      | cons v us =>
        obtain ⟨k, x, e1, e2⟩ := h2 0 v rfl
        simp at e1
        subst e1
        have e3 : Key.inr (txt kv.1) = k := hh.1
        subst e3
        rcases keyIs_shape (show keyIs (Key.inr (txt kv.1)) v = true from e2) with ⟨i, t, e, _⟩ | ⟨y, t, e, rfl⟩ | ⟨e, _⟩
        · cases e
        · injection e with e
          subst e
          exact .cons _ _ (strs_keys tt us (by simpa using h1) fun j v hj => by simpa using h2 (j + 1) v (by simpa using hj))
        · cases e
theorem call_sortedD (hc : X.calm = true) : CallR X (.builtin "sorted") rSortedD := by
  intro pins s σ H xs us Q I r h
  obtain ⟨p, kvs, rfl, hH, hz, q⟩ := h
  obtain ⟨u, rfl, ru⟩ := vals1 r
  cases ru
  obtain ⟨z, hd, vs, rel, dd⟩ := dk_of I.hok hH
  obtain ⟨ep, da⟩ := dd.dictAt
  have hl := rel.length
  rw [List.length_map] at hl
  refine Rev.sortedD (I.ok.hd hc) hd da (by rw [← hl]; exact hz) (strs_keys (P := X.prog) (w := X.w) rel) fun h1 h' tk e out ss' k1 k2 he a1 a2 a3 => ?_
  have ez : ss' = (ss'.map fun x => x.cps.toList).map txt := by
    rw [List.map_map]
    have : (txt ∘ fun (x : Str) => x.cps.toList) = id := by funext x; exact txt_codes x
    rw [this, List.map_id]
  have hp : (ss'.map fun x => x.cps.toList).Perm (kvs.map (·.1)) := by
    have := a2.map (fun x : Str => x.cps.toList)
    rw [List.map_map] at this
    have e2 : ((fun x : Str => x.cps.toList) ∘ txt) = id := by funext l; exact codes_txt l
    rw [e2, List.map_id] at this
    exact this
  rw [ez] at a3
  have hv : Vals ((ss'.map fun x => x.cps.toList).map strV) out.toList := by rw [map_strV, ← ez]; exact vals_strs a1
  have I1 : Inv X pins σ H { s with heap := h1, toks := s.toks } := I.kept (t' := s.toks) k1
  refine ⟨.ref h1.objs.size, _, I1.laid (t' := tk) (a := h1.objs.size) (o := .lst ((ss'.map fun x => x.cps.toList).map strV)) k2 (Nat.le_refl _) ⟨?_, out.toList, e, hv, by simpa [seqObj] using he⟩, rfl, q _ _ (I1.hok.fresh (Nat.le_refl _)) hp (sortedS_pw _ a3)⟩
  have := hp.length_eq
  rw [List.length_map, sizeLine_eq]
  simp at this
  simp
  omega
end
end L2
local macro_rules | `(tactic| and_intros) => `(tactic| simp only [L2.tCompSet,L2.tRaise,L2.tIsi,L2.tSeq,L2.tAsg,L2.gName,L2.tOp,L2.tUn,L2.tVar,L2.tC,L2.tTest,L2.tB,L2.tIf,L2.tIfS,L2.tAnd,L2.tOr,L2.tNot,L2.tAndV,L2.tOrV,L2.tNotV,L2.tRet,L2.tRetN,L2.tNext,L2.tDrop,L2.tCB,L2.tCons,L2.tNil,L2.tBM,L2.tBM0,L2.tCall,L2.tLst,L2.tTup,L2.tSl,L2.tPart,L2.tNoPart,L2.tIsN,L2.tNotN,L2.tYes,L2.tBreak,L2.tCont,L2.rI0,L2.rI,L2.rU,L2.rEq,L2.rNe,L2.start,L2.compSt,List.map_cons,List.map_nil,List.length_cons,List.length_nil,List.replicate_succ,List.replicate_zero,List.cons_append,List.nil_append,List.append_nil,List.getElem?_cons_zero,List.getElem?_cons_succ,List.set_cons_zero,List.set_cons_succ,Option.some.injEq,Option.join_some,L2.V.int.injEq,L2.V.str.injEq,L2.V.bl.injEq,L2.V.ref.injEq,L2.txt_inj,exists_eq_left',exists_eq_left,exists_and_left,and_true,true_and,decide_eq_true_eq,reduceCtorEq,decide_false,decide_true,Bool.not_false,Bool.not_true,if_true,if_false,Bool.false_eq_true,Nat.reduceAdd,Nat.reduceSub,Bool.not_eq_true',decide_eq_false_iff_not,not_true_eq_false,not_false_eq_true])
set_option Elab.async false
set_option linter.all false
set_option maxRecDepth 100000
set_option maxHeartbeats 4000000
namespace L2
open PySem PySem.Spec PyProof.Rows MM
def spDraw (K : PySem.W.Frag) : Sp := fun vs H Q _ => ∃ (a : Addr) (ns : List Int) (k m : Int), vs = [.ref a, .int k, .int m] ∧ SqL K H a (ns.map V.int) ∧ ns.length ≤ 63 ∧ 0 ≤ k ∧ k < 1048576 ∧ 0 < m ∧ ∀ r : Int, 0 ≤ r → r < m → Q (.int r) H
theorem draw_end {i k m : Int} {Q : Int → Prop} (h0 : 0 ≤ k) (h1 : k < 1048576) (h2 : 0 < m) (q : ∀ r : Int, 0 ≤ r → r < m → Q r) :
    (0 : Int) < 1000003 ∧ CMulB 31 k ∧ CMulB (31 * k) k ∧ CMulB (i % 1000003 + 31 * k * k + 1) 48271 ∧ (0 : Int) < 999983 ∧ CMulB ((i % 1000003 + 31 * k * k + 1) * 48271 % 999983) 7919 ∧ (0 : Int) < 524287 ∧ 0 < m ∧
      Q ((i % 1000003 + 31 * k * k + 1) * 48271 % 999983 * 7919 % 524287 % m) :=
  ⟨by decide, mulB_l (by decide) (by decide), mulB_r (by omega) (by omega), mulB_r (by decide) (by decide), by decide, mulB_r (by decide) (by decide), by decide, h2, q _ (Int.emod_nonneg _ (by omega)) (Int.emod_lt_of_pos _ h2)⟩
def spEnds : Sp := fun vs H Q _ => ∃ (K h j : Nat), vs = [.int K, .int h, .int j] ∧ K ≤ 26 ∧ 0 < h ∧ ∀ H', Same H H' → Q (.str (txt (endsL K h j))) H'
def rdEnds (K : PySem.W.Frag) : TS :=
    tRet (tBM K "str" (rJoin K) (tC (.str (txt []))) (tCons (tComp (iRng2 (tCons (tC (.int 1)) (tCons (tVar 0) tNil))) [2, 1] (tTest (tOp rEq (tOp rModI (tOp rSubI (tVar 0) (tC (.int 1))) (tVar 2)) (tVar 1))) (tOp rIxStr (tC (.str (txt ABC))) (tVar 0))) tNil))
theorem flat_ones (l : List Nat) : (l.map fun c => [c]).flatten = l := by
  induction l with
  | nil => rfl
  | cons c l ih => rw [List.map_cons, List.flatten_cons, ih]; rfl
theorem sum_ones (l : List Nat) : ((l.map fun c => [c]).map (·.length)).sum = l.length := by
  induction l with
  | nil => rfl
  | cons c l ih => simp only [List.map_cons, List.sum_cons, ih, List.length_cons, List.length_nil]; omega
theorem read_ends {K : PySem.W.Frag} {N : List Str} {vs : List V} {H : Hp} {Q : VK} {E : XK} (hN : N.length = 3) (h : spEnds vs H Q E) : rdEnds K { nx := fun _ H' => Q .non H', rt := Q } (L2.start N vs) H := by
  obtain ⟨n, h, j, rfl, hn, hh, q⟩ := h
  unfold rdEnds L2.start
  rw [hN]
  and_intros
  refine ⟨rfl, ?_⟩
  refine comp_r2 (l := 1) (j := n) (fun Q h => ⟨_, rfl, h⟩) (by decide) (by decide) (by omega) (by omega) (Nat.le_trans (show ((n : Int) - 1).toNat ≤ 100000 by omega) (by decide))
    (fun i ys H' => H' = H ∧ ys = ((List.range i).filter (fun i => decide (i % h = j))).map (fun i => strV [98 + i])) ⟨rfl, rfl⟩
    (fun i ys H' _ p => by rw [p.2, List.length_map]; exact Nat.le_trans (List.length_filter_le _ _) (by rw [List.length_range]; exact Nat.le_refl _)) ?_ ?_
  · rintro i ys H' hi ⟨rfl, rfl⟩ R hR
    and_intros
    have e1 : (1 + (i : Int) - 1) % (h : Int) = ((i % h : Nat) : Int) := by rw [show (1 + (i : Int) - 1) = (i : Int) by omega]; exact (Int.natCast_emod i h).symm
    rw [e1]
    refine ⟨by omega, rfl, ?_⟩
    rw [List.range_succ, List.filter_append, List.map_append] at hR
    split
    · rename_i e
      refine ixABC_go (by omega) (by omega) (hR _ _ ⟨rfl, ?_⟩)
      rw [show (1 + (i : Int)).toNat = i + 1 by omega, List.filter_cons_of_pos (by simpa using (show i % h = j by omega))]
      simp only [List.filter_nil, List.map_cons, List.map_nil]
      rw [show 97 + (i + 1) = 98 + i by omega]; rfl
    · rename_i e
      refine hR _ _ ⟨rfl, ?_⟩
      rw [List.filter_cons_of_neg (by simpa using (show ¬ i % h = j by omega))]
      simp
  · rintro ys H' ⟨rfl, rfl⟩ p hp
    refine ⟨[], p, (endsL n h j).map (fun c => [c]), rfl, rfl, ?_, ?_, ?_⟩
    · refine .inl (.inl (Eq.trans upd_same (congrArg (fun l => some (HO.lst l)) ?_)))
      unfold endsL
      rw [show ((n : Int) - 1).toNat = n - 1 by omega, List.map_map, List.map_map]
      rfl
    · rw [sum_ones, List.length_map]
      have : (endsL n h j).length ≤ 26 := by
        unfold endsL
        rw [List.length_map]
        exact Nat.le_trans (List.length_filter_le _ _) (by rw [List.length_range]; omega)
      simp only [List.length_nil]; omega
    · rw [joinL_nil, flat_ones]
      exact q _ (Same.up _ hp)
end L2
set_option Elab.async false
set_option linter.all false
set_option maxRecDepth 100000
set_option maxHeartbeats 4000000
namespace L2
open PySem PySem.Spec PyProof.Rows MM
def oV : Option (List Nat) → V
  | none => .non
  | some l => .str (txt l)
def figO : Option (List Nat) → Nat → Nat
  | none, _ => 0
  | some l, i => fig l i
def valO (K : Nat) : Option (List Nat) → Nat → Nat
  | none, _ => 0
  | some l, n => val K l n
def OkO : Option (List Nat) → Prop
  | none => True
  | some l => Ls 26 l ∧ l.length ≤ 100000
theorem valO_zero (K : Nat) (o : Option (List Nat)) : valO K o 0 = 0 := by cases o <;> simp [valO, val_zero]
theorem valO_succ (K : Nat) (o : Option (List Nat)) (n : Nat) : valO K o (n + 1) = valO K o n * K + figO o n := by
  cases o with
  | none => simp [valO, figO]
  | some l => exact val_succ K l n
def spFig : Sp := fun vs H Q _ => ∃ (o : Option (List Nat)) (i : Nat), vs = [oV o, .int i] ∧ OkO o ∧ Q (.int (figO o i : Nat)) H
def rdFig (K : PySem.W.Frag) : TS :=
    tSeq (tIfS (tOr (tB (tIsN (tVar 0))) (tTest (tOp rGeI (tVar 1) (tCB rLenS (tCons (tVar 0) tNil))))) (tRet (tC (.int 0))) (tNext))
      (tRet (tBM K "str" rIndex (tC (.str (txt ABC))) (tCons (tOp rIxStr (tVar 0) (tVar 1)) tNil)))
theorem read_fig {K : PySem.W.Frag} {N : List Str} {vs : List V} {H : Hp} {Q : VK} {E : XK} (hN : N.length = 2) (h : spFig vs H Q E) : rdFig K { nx := fun _ H' => Q .non H', rt := Q } (L2.start N vs) H := by
  obtain ⟨o, i, rfl, ho, q⟩ := h
  unfold rdFig L2.start
  rw [hN]
  cases o with
  | none =>
    simp only [oV, tCompSet,tRaise,tIsi,tSeq,tAsg,gName,tOp,tUn,tVar,tC,tTest,tB,tIf,tIfS,tAnd,tOr,tNot,tAndV,tOrV,tNotV,tRet,tRetN,tNext,tDrop,tCB,tCons,tNil,tBM,tBM0,tCall,tLst,tTup,tSl,tPart,tNoPart,tIsN,tNotN,tYes,tBreak,tCont,rI0,rI,rU,rEq,rNe,L2.start,compSt,List.map_cons,List.map_nil,List.length_cons,List.length_nil,List.replicate_succ,List.replicate_zero,List.cons_append,List.nil_append,List.append_nil,List.getElem?_cons_zero,List.getElem?_cons_succ,List.set_cons_zero,List.set_cons_succ,Option.some.injEq,Option.join_some,V.int.injEq,V.str.injEq,V.bl.injEq,V.ref.injEq,txt_inj,exists_eq_left',exists_eq_left,exists_and_left,and_true,true_and,decide_eq_true_eq,reduceCtorEq,decide_false,decide_true,Bool.not_false,Bool.not_true,if_true,if_false,Bool.false_eq_true,Nat.reduceAdd,Nat.reduceSub,Bool.not_eq_true',decide_eq_false_iff_not,not_true_eq_false,not_false_eq_true]
    exact q
  | some l =>
    obtain ⟨hl, hz⟩ := ho
    simp only [oV, tCompSet,tRaise,tIsi,tSeq,tAsg,gName,tOp,tUn,tVar,tC,tTest,tB,tIf,tIfS,tAnd,tOr,tNot,tAndV,tOrV,tNotV,tRet,tRetN,tNext,tDrop,tCB,tCons,tNil,tBM,tBM0,tCall,tLst,tTup,tSl,tPart,tNoPart,tIsN,tNotN,tYes,tBreak,tCont,rI0,rI,rU,rEq,rNe,L2.start,compSt,List.map_cons,List.map_nil,List.length_cons,List.length_nil,List.replicate_succ,List.replicate_zero,List.cons_append,List.nil_append,List.append_nil,List.getElem?_cons_zero,List.getElem?_cons_succ,List.set_cons_zero,List.set_cons_succ,Option.some.injEq,Option.join_some,V.int.injEq,V.str.injEq,V.bl.injEq,V.ref.injEq,txt_inj,exists_eq_left',exists_eq_left,exists_and_left,and_true,true_and,decide_eq_true_eq,reduceCtorEq,decide_false,decide_true,Bool.not_false,Bool.not_true,if_true,if_false,Bool.false_eq_true,Nat.reduceAdd,Nat.reduceSub,Bool.not_eq_true',decide_eq_false_iff_not,not_true_eq_false,not_false_eq_true]
    refine lenS_go hz ⟨_, rfl, ?_⟩
    by_cases hi : l.length ≤ i
    · rw [if_pos (by omega)]
      have e : figO (some l) i = 0 := by simp [figO, fig, List.getElem?_eq_none hi]
      rw [e] at q
      exact q
    · rw [if_neg (by omega)]
      have hi' : i < l.length := by omega
      have e : figO (some l) i = l[i] - 97 := by simp [figO, fig, hi']
      have hc := hl l[i] (List.getElem_mem hi')
      rw [e] at q
      exact ⟨rfl, ixS_go hz (by omega) (by simp [hi']) (idxABC_go hc.1 hc.2 q)⟩
def spWhole : Sp := fun vs H Q _ => ∃ (L : Nat) (o : Option (List Nat)) (n : Nat), vs = [.int L, oV o, .int n] ∧ L ≤ 26 ∧ OkO o ∧ n ≤ 100000 ∧ Q (.int (valO L o n : Nat)) H
def rdWhole : TS :=
    tSeq (tAsg (tC (.int 0)) (gName 3))
      (tSeq (tFor (iRng1 (tCons (tVar 2) tNil)) (gName 4) (tAsg (tOp rAddI (tOp rMulI (tVar 3) (tVar 0)) (tCall spFig [] E0 (tCons (tVar 1) (tCons (tVar 4) tNil)))) (gName 3)))
      (tRet (tVar 3)))
theorem read_whole {N : List Str} {vs : List V} {H : Hp} {Q : VK} {E : XK} (hN : N.length = 5) (h : spWhole vs H Q E) : rdWhole { nx := fun _ H' => Q .non H', rt := Q } (L2.start N vs) H := by
  obtain ⟨L, o, n, rfl, hL, ho, hn, q⟩ := h
  unfold rdWhole L2.start
  rw [hN]
  and_intros
  refine for_r1 (j := n) (fun Q h => ⟨_, rfl, h⟩) (by omega) (by omega) (fun i σ H' => H' = H ∧ ∃ v4, σ = [some (.int L), some (oV o), some (.int n), some (.int (valO L o i : Nat)), v4]) ⟨rfl, _, by rw [valO_zero]; rfl⟩ ?_ ?_
  · rintro i σ H1 hi ⟨rfl, v4, rfl⟩
    and_intros
    refine ⟨mulB_r (by omega) (by omega), o, i, rfl, ho, ?_⟩
    and_intros
    exact ⟨some (.int i), by rw [valO_succ, Int.natCast_add, Int.natCast_mul]⟩
  · rintro σ H1 ⟨rfl, v4, rfl⟩
    and_intros
    rw [Int.toNat_natCast]
    exact q
def spMarkOf : Sp := fun vs H Q _ => ∃ (L r n : Nat), vs = [.int L, .int r, .int n] ∧ 0 < L ∧ L ≤ 26 ∧ n ≤ 100000 ∧ Q (.str (txt (mk L r n))) H
def rdMarkOf (K : PySem.W.Frag) : TS :=
    tSeq (tAsg (tC (.str (txt []))) (gName 3))
      (tSeq (tAsg (tVar 1) (gName 4))
      (tSeq (tFor (iRng1 (tCons (tVar 2) tNil)) (gName 5) (tSeq (tAsg (tOp rAddS (tOp rIxStr (tC (.str (txt ABC))) (tOp rModI (tVar 4) (tVar 0))) (tVar 3)) (gName 3))
      (tAsg (tOp rDivI (tVar 4) (tVar 0)) (gName 4))))
      (tRet (tBM K "str" rRstrip (tVar 3) (tCons (tC (.str (txt [97]))) tNil)))))
theorem read_markOf {K : PySem.W.Frag} {N : List Str} {vs : List V} {H : Hp} {Q : VK} {E : XK} (hN : N.length = 6) (h : spMarkOf vs H Q E) : rdMarkOf K { nx := fun _ H' => Q .non H', rt := Q } (L2.start N vs) H := by
  obtain ⟨L, r, n, rfl, hL0, hL, hn, q⟩ := h
  unfold rdMarkOf L2.start
  rw [hN]
  and_intros
  refine for_r1 (j := n) (fun Q h => ⟨_, rfl, h⟩) (by omega) (by omega) (fun i σ H' => H' = H ∧ ∃ v5, σ = [some (.int L), some (.int r), some (.int n), some (.str (txt (low L r i))), some (.int (r / L ^ i : Nat)), v5]) ⟨rfl, _, by rw [Nat.pow_zero, Nat.div_one]; rfl⟩ ?_ ?_
  · rintro i σ H1 hi ⟨rfl, v5, rfl⟩
    have e1 : ((r / L ^ i : Nat) : Int) % (L : Int) = ((r / L ^ i % L : Nat) : Int) := (Int.natCast_emod _ _).symm
    have e2 : ((r / L ^ i : Nat) : Int) / (L : Int) = ((r / L ^ (i + 1) : Nat) : Int) := by rw [Nat.pow_succ, ← Nat.div_div_eq_div_mul]; exact (Int.natCast_ediv _ _).symm
    have hb := Nat.mod_lt (r / L ^ i) hL0
    and_intros
    rw [e1, e2]
    refine ⟨by omega, ixABC_go (by omega) (by omega) (addS_go (by rw [low_length]; simp only [List.length_cons, List.length_nil]; omega) ⟨cdiv (by omega) (by omega), ?_⟩)⟩
    exact ⟨rfl, some (.int i), by rw [Int.toNat_natCast]; rfl⟩
  · rintro σ H1 ⟨rfl, v5, rfl⟩
    and_intros
    rw [Int.toNat_natCast]
    exact ⟨rfl, rstrip_go (by rw [low_length]; exact hn) q⟩
end L2
set_option Elab.async false
set_option linter.all false
set_option maxRecDepth 100000
set_option maxHeartbeats 4000000
namespace L2
open PySem PySem.Spec PyProof.Rows MM
theorem Same.set {H H' : Hp} {p : Addr} {o : HO} (s : Same H H') (hp : H p = none) : Same H (upd H' p o) := fun b q e => by
  have := s b q e
  rw [upd_ne (ne_of_none e hp)]; exact this
theorem some_at {α : Type} {l : List α} {i : Nat} (h : i < l.length) : ∃ c, l[i]? = some c := ⟨l[i], List.getElem?_eq_getElem h⟩
end L2
set_option Elab.async false
set_option linter.all false
set_option maxRecDepth 100000
set_option maxHeartbeats 4000000
namespace L2
open PySem PySem.Spec PyProof.Rows MM
def spPower : Sp := fun vs H Q _ => ∃ (L n : Nat), vs = [.int L, .int n] ∧ L ≤ 26 ∧ n ≤ 100000 ∧ Q (.int (L ^ n : Nat)) H
def rdPower : TS :=
    tSeq (tAsg (tC (.int 1)) (gName 2))
      (tSeq (tFor (iRng1 (tCons (tVar 1) tNil)) (gName 3) (tAsg (tOp rMulI (tVar 2) (tVar 0)) (gName 2)))
      (tRet (tVar 2)))
theorem read_power {N : List Str} {vs : List V} {H : Hp} {Q : VK} {E : XK} (hN : N.length = 4) (h : spPower vs H Q E) : rdPower { nx := fun _ H' => Q .non H', rt := Q } (L2.start N vs) H := by
  obtain ⟨L, n, rfl, hL, hn, q⟩ := h
  unfold rdPower L2.start
  rw [hN]
  and_intros
  refine for_r1 (j := n) (fun Q h => ⟨_, rfl, h⟩) (by omega) (by omega) (fun i σ H' => H' = H ∧ ∃ v3, σ = [some (.int L), some (.int n), some (.int (L ^ i : Nat)), v3]) ⟨rfl, _, rfl⟩ ?_ ?_
  · rintro i σ H1 hi ⟨rfl, v3, rfl⟩
    and_intros
    exact ⟨mulB_r (by omega) (by omega), some (.int i), by rw [Nat.pow_succ, Int.natCast_mul]⟩
  · rintro σ H1 ⟨rfl, v3, rfl⟩
    and_intros
    rw [Int.toNat_natCast]
    exact q
def highO (L : Nat) : Option (List Nat) → Nat → Nat
  | none, n => L ^ n
  | some h, n => val L h n
def spHigh : Sp := fun vs H Q _ => ∃ (L : Nat) (o : Option (List Nat)) (n : Nat), vs = [.int L, oV o, .int n] ∧ L ≤ 26 ∧ OkO o ∧ n ≤ 100000 ∧ Q (.int (highO L o n : Nat)) H
def rdHigh : TS :=
    tSeq (tIfS (tB (tIsN (tVar 1))) (tRet (tCall spPower [] E0 (tCons (tVar 0) (tCons (tVar 2) tNil)))) (tNext))
      (tRet (tCall spWhole [] E0 (tCons (tVar 0) (tCons (tVar 1) (tCons (tVar 2) tNil)))))
theorem read_high {N : List Str} {vs : List V} {H : Hp} {Q : VK} {E : XK} (hN : N.length = 3) (h : spHigh vs H Q E) : rdHigh { nx := fun _ H' => Q .non H', rt := Q } (L2.start N vs) H := by
  obtain ⟨L, o, n, rfl, hL, ho, hn, q⟩ := h
  unfold rdHigh L2.start
  rw [hN]
  cases o with
  | none =>
    simp only [oV, tCompSet,tRaise,tIsi,tSeq,tAsg,gName,tOp,tUn,tVar,tC,tTest,tB,tIf,tIfS,tAnd,tOr,tNot,tAndV,tOrV,tNotV,tRet,tRetN,tNext,tDrop,tCB,tCons,tNil,tBM,tBM0,tCall,tLst,tTup,tSl,tPart,tNoPart,tIsN,tNotN,tYes,tBreak,tCont,rI0,rI,rU,rEq,rNe,L2.start,compSt,List.map_cons,List.map_nil,List.length_cons,List.length_nil,List.replicate_succ,List.replicate_zero,List.cons_append,List.nil_append,List.append_nil,List.getElem?_cons_zero,List.getElem?_cons_succ,List.set_cons_zero,List.set_cons_succ,Option.some.injEq,Option.join_some,V.int.injEq,V.str.injEq,V.bl.injEq,V.ref.injEq,txt_inj,exists_eq_left',exists_eq_left,exists_and_left,and_true,true_and,decide_eq_true_eq,reduceCtorEq,decide_false,decide_true,Bool.not_false,Bool.not_true,if_true,if_false,Bool.false_eq_true,Nat.reduceAdd,Nat.reduceSub,Bool.not_eq_true',decide_eq_false_iff_not,not_true_eq_false,not_false_eq_true]
    exact ⟨L, n, rfl, hL, hn, q⟩
  | some h =>
    simp only [oV, tCompSet,tRaise,tIsi,tSeq,tAsg,gName,tOp,tUn,tVar,tC,tTest,tB,tIf,tIfS,tAnd,tOr,tNot,tAndV,tOrV,tNotV,tRet,tRetN,tNext,tDrop,tCB,tCons,tNil,tBM,tBM0,tCall,tLst,tTup,tSl,tPart,tNoPart,tIsN,tNotN,tYes,tBreak,tCont,rI0,rI,rU,rEq,rNe,L2.start,compSt,List.map_cons,List.map_nil,List.length_cons,List.length_nil,List.replicate_succ,List.replicate_zero,List.cons_append,List.nil_append,List.append_nil,List.getElem?_cons_zero,List.getElem?_cons_succ,List.set_cons_zero,List.set_cons_succ,Option.some.injEq,Option.join_some,V.int.injEq,V.str.injEq,V.bl.injEq,V.ref.injEq,txt_inj,exists_eq_left',exists_eq_left,exists_and_left,and_true,true_and,decide_eq_true_eq,reduceCtorEq,decide_false,decide_true,Bool.not_false,Bool.not_true,if_true,if_false,Bool.false_eq_true,Nat.reduceAdd,Nat.reduceSub,Bool.not_eq_true',decide_eq_false_iff_not,not_true_eq_false,not_false_eq_true]
    exact ⟨L, some h, n, rfl, hL, ho, hn, q⟩
def spBelow : Sp := fun vs H Q _ => ∃ (L : Nat) (es : List Nat) (n : Nat), vs = [.int L, .str (txt es), .int n] ∧ 0 < L ∧ L ≤ 26 ∧ es.length ≤ 26 ∧ ∀ H', Same H H' → Q (.int (ob L es n : Nat)) H'
def rdBelow (K : PySem.W.Frag) : TS :=
    tSeq (tCompSet 3 (iStr (tVar 1)) [2, 0] (tTest (tOp rLtS (tVar 0) (tOp rIxStr (tC (.str (txt ABC))) (tOp rModI (tVar 1) (tVar 2))))) (tVar 0))
      (tRet (tOp rAddI (tOp rMulI (tOp rDivI (tVar 2) (tVar 0)) (tCB rLenS (tCons (tVar 1) tNil))) (tCB (rLenL K) (tCons (tVar 3) tNil))))
theorem one_lt (a b : Nat) : ([a] < [b]) ↔ a < b := by
  rw [List.cons_lt_cons_iff]
  constructor
  · rintro (h | ⟨_, h⟩)
    · exact h
    · exact absurd h (List.not_lt_nil _)
  · exact .inl
theorem read_below {K : PySem.W.Frag} {N : List Str} {vs : List V} {H : Hp} {Q : VK} {E : XK} (hN : N.length = 4) (h : spBelow vs H Q E) : rdBelow K { nx := fun _ H' => Q .non H', rt := Q } (L2.start N vs) H := by
  obtain ⟨L, es, n, rfl, hL0, hL, hes, q⟩ := h
  unfold rdBelow L2.start
  rw [hN]
  have hm := Nat.mod_lt n hL0
  have e1 : (n : Int) % (L : Int) = ((n % L : Nat) : Int) := (Int.natCast_emod _ _).symm
  have e2 : (n : Int) / (L : Int) = ((n / L : Nat) : Int) := (Int.natCast_ediv _ _).symm
  and_intros
  refine comp_s (l := es) (fun Q h => ⟨_, rfl, h⟩) (Nat.le_trans (show es.length ≤ 100000 by omega) (by decide)) (fun i ys H' => H' = H ∧ ys = ((es.take i).filter fun e => decide (e < 97 + n % L)).map (fun c => strV [c])) ⟨rfl, rfl⟩
    (fun i ys H' _ p => by rw [p.2, List.length_map]; exact Nat.le_trans (List.length_filter_le _ _) (by rw [List.length_take]; omega)) ?_ ?_
  · rintro i c ys H' hc ⟨rfl, rfl⟩ R hR
    and_intros
    rw [e1]
    refine ⟨by omega, ixABC_go (by omega) (by omega) ⟨_, _, rfl, rfl, _, rfl, ?_⟩⟩
    rw [Int.toNat_natCast]
    rw [List.take_succ, hc, List.filter_append, List.map_append] at hR
    by_cases hlt : c < 97 + n % L
    · rw [decide_eq_true ((one_lt _ _).mpr hlt), if_pos rfl]
      refine hR _ _ ⟨rfl, ?_⟩
      show _ = _ ++ List.map _ (List.filter _ [c])
      rw [List.filter_cons_of_pos (by simpa using hlt)]; rfl
    · rw [decide_eq_false (fun z => hlt ((one_lt _ _).mp z)), if_neg (by decide)]
      refine hR _ _ ⟨rfl, ?_⟩
      show _ = _ ++ List.map _ (List.filter _ [c])
      rw [List.filter_cons_of_neg (by simpa using hlt)]; simp
  · rintro ys H' ⟨rfl, rfl⟩ p hp
    rw [e2]
    refine ⟨cdiv (by omega) (by omega), lenS_go (by omega) ⟨_, rfl, mulB_r (by omega) (by omega), ?_⟩⟩
    refine lenL_go SqL.here ⟨_, rfl, ?_⟩
    rw [List.length_map, List.take_length]
    have := q _ (Same.up H' hp (o := HO.lst ((es.filter fun e => decide (e < 97 + n % L)).map (fun c => strV [c]))))
    unfold ob MM.cnt at this
    rw [Int.natCast_add, Int.natCast_mul] at this
    exact this
def spUpLow : Sp := fun vs H Q _ => ∃ (L : Nat) (es : List Nat) (n : Nat), vs = [.int L, .str (txt es), .int n] ∧ 0 < L ∧ L ≤ 26 ∧ es.length ≤ 26 ∧ ∀ H', Same H H' → Q (.int (ob L es (n + 1) : Nat)) H'
def rdUpLow : TS := tRet (tCall spBelow [] E0 (tCons (tVar 0) (tCons (tVar 1) (tCons (tOp rAddI (tVar 2) (tC (.int 1))) tNil))))
theorem read_upLow {N : List Str} {vs : List V} {H : Hp} {Q : VK} {E : XK} (hN : N.length = 3) (h : spUpLow vs H Q E) : rdUpLow { nx := fun _ H' => Q .non H', rt := Q } (L2.start N vs) H := by
  obtain ⟨L, es, n, rfl, hL0, hL, hes, q⟩ := h
  unfold rdUpLow L2.start
  rw [hN]
  and_intros
  exact ⟨L, es, n + 1, rfl, hL0, hL, hes, q⟩
def aheadN : Option (List Nat) → Nat → Nat → Nat
  | none, w, _ => w
  | some h, w, n => if n < h.length then w + 1 else w
def aheadB (b : Bool) (o : Option (List Nat)) (w n : Nat) : Nat := if b = true then aheadN o w n else w
def spAhead : Sp := fun vs H Q _ => ∃ (L : Nat) (es : List Nat) (o : Option (List Nat)) (w n : Nat) (b : Bool), vs = [.int L, .str (txt es), oV o, .int w, .int n, .bl b] ∧ 0 < L ∧ L ≤ 26 ∧ es.length ≤ 26 ∧ OkO o ∧ ∀ H', Same H H' → Q (.int (ob L es (aheadB b o w n) : Nat)) H'
def rdAhead : TS :=
    tSeq (tIfS (tAnd (tB (tVar 5)) (tAnd (tB (tNotN (tVar 2))) (tTest (tOp rLtI (tVar 4) (tCB rLenS (tCons (tVar 2) tNil)))))) (tRet (tCall spBelow [] E0 (tCons (tVar 0) (tCons (tVar 1) (tCons (tOp rAddI (tVar 3) (tC (.int 1))) tNil))))) (tNext))
      (tRet (tCall spBelow [] E0 (tCons (tVar 0) (tCons (tVar 1) (tCons (tVar 3) tNil)))))
theorem read_ahead {N : List Str} {vs : List V} {H : Hp} {Q : VK} {E : XK} (hN : N.length = 6) (h : spAhead vs H Q E) : rdAhead { nx := fun _ H' => Q .non H', rt := Q } (L2.start N vs) H := by
  obtain ⟨L, es, o, w, n, b, rfl, hL0, hL, hes, ho, q⟩ := h
  unfold rdAhead L2.start
  rw [hN]
  cases b with
  | false =>
    and_intros
    exact ⟨L, es, w, rfl, hL0, hL, hes, q⟩
  | true =>
    cases o with
    | none =>
      simp only [oV, tCompSet,tRaise,tIsi,tSeq,tAsg,gName,tOp,tUn,tVar,tC,tTest,tB,tIf,tIfS,tAnd,tOr,tNot,tAndV,tOrV,tNotV,tRet,tRetN,tNext,tDrop,tCB,tCons,tNil,tBM,tBM0,tCall,tLst,tTup,tSl,tPart,tNoPart,tIsN,tNotN,tYes,tBreak,tCont,rI0,rI,rU,rEq,rNe,L2.start,compSt,List.map_cons,List.map_nil,List.length_cons,List.length_nil,List.replicate_succ,List.replicate_zero,List.cons_append,List.nil_append,List.append_nil,List.getElem?_cons_zero,List.getElem?_cons_succ,List.set_cons_zero,List.set_cons_succ,Option.some.injEq,Option.join_some,V.int.injEq,V.str.injEq,V.bl.injEq,V.ref.injEq,txt_inj,exists_eq_left',exists_eq_left,exists_and_left,and_true,true_and,decide_eq_true_eq,reduceCtorEq,decide_false,decide_true,Bool.not_false,Bool.not_true,if_true,if_false,Bool.false_eq_true,Nat.reduceAdd,Nat.reduceSub,Bool.not_eq_true',decide_eq_false_iff_not,not_true_eq_false,not_false_eq_true]
      exact ⟨L, es, w, rfl, hL0, hL, hes, q⟩
    | some h =>
      simp only [oV, tCompSet,tRaise,tIsi,tSeq,tAsg,gName,tOp,tUn,tVar,tC,tTest,tB,tIf,tIfS,tAnd,tOr,tNot,tAndV,tOrV,tNotV,tRet,tRetN,tNext,tDrop,tCB,tCons,tNil,tBM,tBM0,tCall,tLst,tTup,tSl,tPart,tNoPart,tIsN,tNotN,tYes,tBreak,tCont,rI0,rI,rU,rEq,rNe,L2.start,compSt,List.map_cons,List.map_nil,List.length_cons,List.length_nil,List.replicate_succ,List.replicate_zero,List.cons_append,List.nil_append,List.append_nil,List.getElem?_cons_zero,List.getElem?_cons_succ,List.set_cons_zero,List.set_cons_succ,Option.some.injEq,Option.join_some,V.int.injEq,V.str.injEq,V.bl.injEq,V.ref.injEq,txt_inj,exists_eq_left',exists_eq_left,exists_and_left,and_true,true_and,decide_eq_true_eq,reduceCtorEq,decide_false,decide_true,Bool.not_false,Bool.not_true,if_true,if_false,Bool.false_eq_true,Nat.reduceAdd,Nat.reduceSub,Bool.not_eq_true',decide_eq_false_iff_not,not_true_eq_false,not_false_eq_true]
      refine lenS_go ho.2 ⟨_, rfl, ?_⟩
      have ea : aheadB true (some h) w n = if n < h.length then w + 1 else w := rfl
      rw [ea] at q
      by_cases hn : n < h.length
      · rw [if_pos (by omega)]
        rw [if_pos hn] at q
        exact ⟨L, es, w + 1, rfl, hL0, hL, hes, q⟩
      · rw [if_neg (by omega)]
        rw [if_neg hn] at q
        exact ⟨L, es, w, rfl, hL0, hL, hes, q⟩
def OkLH (lo hi : Option (List Nat)) : Prop := ∀ l h, lo = some l → hi = some h → l < h
def spAskRoom (c : Addr) : Sp := fun vs H Q E => ∃ lo hi : Option (List Nat), vs = [oV lo, oV hi] ∧ (OkLH lo hi → Q .non H) ∧ (¬ OkLH lo hi → E (.ref c) none H)
def rdAskRoom (c : Addr) (E : XK) (m : List Nat) : TS :=
    tIfS (tAnd (tB (tNotN (tVar 0))) (tAnd (tB (tNotN (tVar 1))) (tTest (tOp rGeS (tVar 0) (tVar 1))))) (tRaise (.ref c) E (tCons (tC (.str (txt m))) tNil)) (tNext)
theorem read_askRoom {c : Addr} {m : List Nat} {N : List Str} {vs : List V} {H : Hp} {Q : VK} {E : XK} (hN : N.length = 2) (h : spAskRoom c vs H Q E) : rdAskRoom c E m { nx := fun _ H' => Q .non H', rt := Q } (L2.start N vs) H := by
  obtain ⟨lo, hi, rfl, q1, q2⟩ := h
  unfold rdAskRoom L2.start
  rw [hN]
  cases lo with
  | none =>
    simp only [oV, tCompSet,tRaise,tIsi,tSeq,tAsg,gName,tOp,tUn,tVar,tC,tTest,tB,tIf,tIfS,tAnd,tOr,tNot,tAndV,tOrV,tNotV,tRet,tRetN,tNext,tDrop,tCB,tCons,tNil,tBM,tBM0,tCall,tLst,tTup,tSl,tPart,tNoPart,tIsN,tNotN,tYes,tBreak,tCont,rI0,rI,rU,rEq,rNe,L2.start,compSt,List.map_cons,List.map_nil,List.length_cons,List.length_nil,List.replicate_succ,List.replicate_zero,List.cons_append,List.nil_append,List.append_nil,List.getElem?_cons_zero,List.getElem?_cons_succ,List.set_cons_zero,List.set_cons_succ,Option.some.injEq,Option.join_some,V.int.injEq,V.str.injEq,V.bl.injEq,V.ref.injEq,txt_inj,exists_eq_left',exists_eq_left,exists_and_left,and_true,true_and,decide_eq_true_eq,reduceCtorEq,decide_false,decide_true,Bool.not_false,Bool.not_true,if_true,if_false,Bool.false_eq_true,Nat.reduceAdd,Nat.reduceSub,Bool.not_eq_true',decide_eq_false_iff_not,not_true_eq_false,not_false_eq_true]
    exact q1 (fun l h e => nomatch e)
  | some l =>
    cases hi with
    | none =>
      simp only [oV, tCompSet,tRaise,tIsi,tSeq,tAsg,gName,tOp,tUn,tVar,tC,tTest,tB,tIf,tIfS,tAnd,tOr,tNot,tAndV,tOrV,tNotV,tRet,tRetN,tNext,tDrop,tCB,tCons,tNil,tBM,tBM0,tCall,tLst,tTup,tSl,tPart,tNoPart,tIsN,tNotN,tYes,tBreak,tCont,rI0,rI,rU,rEq,rNe,L2.start,compSt,List.map_cons,List.map_nil,List.length_cons,List.length_nil,List.replicate_succ,List.replicate_zero,List.cons_append,List.nil_append,List.append_nil,List.getElem?_cons_zero,List.getElem?_cons_succ,List.set_cons_zero,List.set_cons_succ,Option.some.injEq,Option.join_some,V.int.injEq,V.str.injEq,V.bl.injEq,V.ref.injEq,txt_inj,exists_eq_left',exists_eq_left,exists_and_left,and_true,true_and,decide_eq_true_eq,reduceCtorEq,decide_false,decide_true,Bool.not_false,Bool.not_true,if_true,if_false,Bool.false_eq_true,Nat.reduceAdd,Nat.reduceSub,Bool.not_eq_true',decide_eq_false_iff_not,not_true_eq_false,not_false_eq_true]
      exact q1 (fun l h _ e => nomatch e)
    | some h =>
      simp only [oV, tCompSet,tRaise,tIsi,tSeq,tAsg,gName,tOp,tUn,tVar,tC,tTest,tB,tIf,tIfS,tAnd,tOr,tNot,tAndV,tOrV,tNotV,tRet,tRetN,tNext,tDrop,tCB,tCons,tNil,tBM,tBM0,tCall,tLst,tTup,tSl,tPart,tNoPart,tIsN,tNotN,tYes,tBreak,tCont,rI0,rI,rU,rEq,rNe,L2.start,compSt,List.map_cons,List.map_nil,List.length_cons,List.length_nil,List.replicate_succ,List.replicate_zero,List.cons_append,List.nil_append,List.append_nil,List.getElem?_cons_zero,List.getElem?_cons_succ,List.set_cons_zero,List.set_cons_succ,Option.some.injEq,Option.join_some,V.int.injEq,V.str.injEq,V.bl.injEq,V.ref.injEq,txt_inj,exists_eq_left',exists_eq_left,exists_and_left,and_true,true_and,decide_eq_true_eq,reduceCtorEq,decide_false,decide_true,Bool.not_false,Bool.not_true,if_true,if_false,Bool.false_eq_true,Nat.reduceAdd,Nat.reduceSub,Bool.not_eq_true',decide_eq_false_iff_not,not_true_eq_false,not_false_eq_true]
      refine ⟨l, h, rfl, rfl, _, rfl, ?_⟩
      by_cases hl : l < h
      · rw [decide_eq_true hl, if_neg (by decide)]
        exact q1 (fun l' h' e1 e2 => by cases e1; cases e2; exact hl)
      · rw [decide_eq_false hl, if_pos (by decide)]
        exact ⟨by decide, q2 (fun z => hl (z l h rfl rfl))⟩
def roomI (L : Nat) (es : List Nat) (lo hi : Option (List Nat)) (n : Nat) : Int := (ob L es (aheadN hi (highO L hi n) n) : Nat) - (ob L es (valO L lo n + 1) : Nat)
def roomB (b : Bool) (L : Nat) (es : List Nat) (lo hi : Option (List Nat)) (n : Nat) : Int := (ob L es (aheadB b hi (highO L hi n) n) : Nat) - (ob L es (valO L lo n + 1) : Nat)
theorem roomB_true (L : Nat) (es : List Nat) (lo hi : Option (List Nat)) (n : Nat) : roomB true L es lo hi n = roomI L es lo hi n := rfl
def spCounted : Sp := fun vs H Q _ => ∃ (L : Nat) (es : List Nat) (lo hi : Option (List Nat)) (n : Nat) (b : Bool), vs = [.int L, .str (txt es), oV lo, oV hi, .int n, .bl b] ∧ 0 < L ∧ L ≤ 26 ∧ es.length ≤ 26 ∧ OkO lo ∧ OkO hi ∧ n ≤ 100000 ∧ ∀ H', Same H H' → Q (.int (roomB b L es lo hi n)) H'
def rdCounted : TS :=
    tSeq (tAsg (tCall spWhole [] E0 (tCons (tVar 0) (tCons (tVar 2) (tCons (tVar 4) tNil)))) (gName 6))
      (tSeq (tAsg (tCall spHigh [] E0 (tCons (tVar 0) (tCons (tVar 3) (tCons (tVar 4) tNil)))) (gName 7))
      (tSeq (tAsg (tCall spAhead [] E0 (tCons (tVar 0) (tCons (tVar 1) (tCons (tVar 3) (tCons (tVar 7) (tCons (tVar 4) (tCons (tVar 5) tNil))))))) (gName 8))
      (tRet (tOp rSubI (tVar 8) (tCall spUpLow [] E0 (tCons (tVar 0) (tCons (tVar 1) (tCons (tVar 6) tNil))))))))
theorem read_counted {N : List Str} {vs : List V} {H : Hp} {Q : VK} {E : XK} (hN : N.length = 9) (h : spCounted vs H Q E) : rdCounted { nx := fun _ H' => Q .non H', rt := Q } (L2.start N vs) H := by
  obtain ⟨L, es, lo, hi, n, b, rfl, l0, l26, hes, olo, ohi, hn, q⟩ := h
  unfold rdCounted L2.start
  rw [hN]
  and_intros
  refine ⟨L, lo, n, rfl, l26, olo, hn, ?_⟩
  refine ⟨L, hi, n, rfl, l26, ohi, hn, ?_⟩
  refine ⟨L, _, hi, _, n, b, rfl, l0, l26, hes, ohi, fun H2 s2 => ?_⟩
  refine ⟨L, _, _, rfl, l0, l26, hes, fun H3 s3 => ?_⟩
  and_intros
  exact q _ (s2.trans s3)
structure RoomIn (L h j : Nat) (lo hi : Option (List Nat)) (n : Nat) : Prop where
  l0 : 0 < L
  l26 : L ≤ 26
  h0 : 0 < h
  lo : OkO lo
  hi : OkO hi
  n : n ≤ 100000
theorem endsL_len {L h j : Nat} (hL : L ≤ 26) : (endsL L h j).length ≤ 26 := by
  unfold endsL
  rw [List.length_map]
  exact Nat.le_trans (List.length_filter_le _ _) (by rw [List.length_range]; omega)
def spNth (c : Addr) : Sp := fun vs H Q E => ∃ (L h j : Nat) (lo hi : Option (List Nat)) (n k : Nat), vs = [.int L, .int h, .int j, oV lo, oV hi, .int n, .int k] ∧ RoomIn L h j lo hi n ∧ j < h ∧ h + 1 ≤ L ∧
  (OkLH lo hi → ∀ H', Same H H' → Q (.str (txt (mk L (nth L (endsL L h j) (ob L (endsL L h j) (valO L lo n + 1) + k)) n))) H') ∧ (¬ OkLH lo hi → E (.ref c) none H)
def rdNth (K : PySem.W.Frag) (c : Addr) (E : XK) : TS :=
    tSeq (tDrop (tCall (spAskRoom c) [] E (tCons (tVar 3) (tCons (tVar 4) tNil))))
      (tSeq (tAsg (tCall spEnds [] E0 (tCons (tVar 0) (tCons (tVar 1) (tCons (tVar 2) tNil)))) (gName 7))
      (tSeq (tAsg (tCall spWhole [] E0 (tCons (tVar 0) (tCons (tVar 3) (tCons (tVar 5) tNil)))) (gName 8))
      (tSeq (tAsg (tOp rAddI (tCall spUpLow [] E0 (tCons (tVar 0) (tCons (tVar 7) (tCons (tVar 8) tNil)))) (tVar 6)) (gName 9))
      (tSeq (tAsg (tBM K "str" rIndex (tC (.str (txt ABC))) (tCons (tOp rIxStr (tVar 7) (tOp rModI (tVar 9) (tCB rLenS (tCons (tVar 7) tNil)))) tNil)) (gName 10))
      (tRet (tCall spMarkOf [] E0 (tCons (tVar 0) (tCons (tOp rAddI (tOp rMulI (tOp rDivI (tVar 9) (tCB rLenS (tCons (tVar 7) tNil))) (tVar 0)) (tVar 10)) (tCons (tVar 5) tNil)))))))))
theorem read_nth {K : PySem.W.Frag} {c : Addr} {N : List Str} {vs : List V} {H : Hp} {Q : VK} {E : XK} (hN : N.length = 11) (h : spNth c vs H Q E) : rdNth K c E { nx := fun _ H' => Q .non H', rt := Q } (L2.start N vs) H := by
  obtain ⟨L, h, j, lo, hi, n, k, rfl, R, hj, hh, q1, q2⟩ := h
  unfold rdNth L2.start
  rw [hN]
  and_intros
  refine ⟨lo, hi, rfl, fun ok => ?_, q2⟩
  have q1 := q1 ok
  and_intros
  refine ⟨L, h, j, rfl, R.l26, R.h0, fun H1 s1 => ?_⟩
  have EN := ends_ok hj hh
  have hel := endsL_len (h := h) (j := j) R.l26
  generalize endsL L h j = es at q1 EN hel ⊢
  refine ⟨L, lo, n, rfl, R.l26, R.lo, R.n, ?_⟩
  refine ⟨L, _, _, rfl, R.l0, R.l26, hel, fun H2 s2 => ?_⟩
  and_intros
  generalize ob L es (valO L lo n + 1) = p0 at q1 ⊢
  have hp : 0 < es.length := List.length_pos_iff.mpr EN.ne
  refine ⟨rfl, lenS_go (by omega) ⟨_, rfl, by omega, ?_⟩⟩
  have e1 : ((p0 : Int) + (k : Int)) % (es.length : Int) = (((p0 + k) % es.length : Nat) : Int) := by rw [← Int.natCast_add]; exact (Int.natCast_emod _ _).symm
  have e2 : ((p0 : Int) + (k : Int)) / (es.length : Int) = (((p0 + k) / es.length : Nat) : Int) := by rw [← Int.natCast_add]; exact (Int.natCast_ediv _ _).symm
  have hm := Nat.mod_lt (p0 + k) hp
  obtain ⟨c0, hc0⟩ := some_at hm
  have hcm := List.mem_of_getElem? hc0
  have c1 := EN.lo c0 hcm
  have c2 := EN.hi c0 hcm
  have l26 := R.l26
  rw [e1]
  refine ixS_go (by omega) (by omega) (by rw [Int.toNat_natCast]; exact hc0) (idxABC_go (by omega) (by omega) ?_)
  and_intros
  refine lenS_go (by omega) ⟨_, rfl, cdiv (by omega) (by omega), mulB_r (by omega) (by omega), ?_⟩
  rw [e2]
  refine ⟨L, nth L es (p0 + k), n, ?_, R.l0, R.l26, R.n, q1 _ (s1.trans s2)⟩
  unfold nth
  rw [List.getD_eq_getElem?_getD, hc0, Int.natCast_add, Int.natCast_mul]
  rfl
end L2
set_option Elab.async false
set_option linter.all false
set_option maxRecDepth 100000
set_option maxHeartbeats 4000000
namespace L2
open PySem PySem.Spec PyProof.Rows MM
structure MarksOk (L : Nat) (lo hi : Option (List Nat)) : Prop where
  mlo : ∀ m, lo = some m → Mark L m ∧ m.length ≤ 1000
  mhi : ∀ m, hi = some m → Mark L m ∧ m.length ≤ 1000
def lenO : Option (List Nat) → Nat
  | none => 0
  | some l => l.length
structure Hands (L h j : Nat) : Prop where
  l2 : 2 ≤ L
  l26 : L ≤ 26
  hj : j < h
  hh : h + 1 ≤ L
structure LeastB (b : Bool) (L : Nat) (es : List Nat) (lo hi : Option (List Nat)) (k n : Nat) : Prop where
  pos : 1 ≤ n
  len : n ≤ 1 + lenO lo + k ∨ n ≤ 1 + lenO hi + k
  room : (k : Int) ≤ roomB b L es lo hi n
  less : ∀ m, 1 ≤ m → m < n → roomB b L es lo hi m < k
theorem LeastB.one {b : Bool} {L : Nat} {es : List Nat} {lo hi : Option (List Nat)} {k n m : Nat} (A : LeastB b L es lo hi k n) (B : LeastB b L es lo hi k m) : n = m := by
  rcases Nat.lt_trichotomy n m with h | h | h
  · have := B.less n A.pos h
    have := A.room
    omega
  · exact h
  · have := A.less m B.pos h
    have := B.room
    omega
theorem MarksOk.okO {L : Nat} {lo hi : Option (List Nat)} (M : MarksOk L lo hi) (hL : L ≤ 26) : OkO lo ∧ OkO hi := by
  constructor
  · cases lo with
    | none => trivial
    | some m => exact ⟨(M.mlo m rfl).1.ls.mono hL, by have := (M.mlo m rfl).2; omega⟩
  · cases hi with
    | none => trivial
    | some m => exact ⟨(M.mhi m rfl).1.ls.mono hL, by have := (M.mhi m rfl).2; omega⟩
theorem MarksOk.roomIn {L h j n : Nat} {lo hi : Option (List Nat)} (M : MarksOk L lo hi) (D : Hands L h j) (hn : n ≤ 100000) : RoomIn L h j lo hi n :=
  ⟨by have := D.l2; omega, D.l26, by have := D.hj; omega, (M.okO D.l26).1, (M.okO D.l26).2, hn⟩
theorem MarksOk.lens {L : Nat} {lo hi : Option (List Nat)} (M : MarksOk L lo hi) : lenO lo ≤ 1000 ∧ lenO hi ≤ 1000 := by
  constructor
  · cases lo with
    | none => exact Nat.zero_le _
    | some m => exact (M.mlo m rfl).2
  · cases hi with
    | none => exact Nat.zero_le _
    | some m => exact (M.mhi m rfl).2
theorem highO_succ (L : Nat) (o : Option (List Nat)) (n : Nat) : highO L o (n + 1) = highO L o n * L + figO o n := by
  cases o with
  | none => show L ^ (n + 1) = L ^ n * L + 0; rw [Nat.pow_succ]; rfl
  | some l => exact val_succ L l n
theorem figO_end {o : Option (List Nat)} {n : Nat} (h : lenO o ≤ n) : figO o n = 0 := by
  cases o with
  | none => rfl
  | some l => show fig l n = 0; unfold fig; rw [List.getElem?_eq_none h]
theorem val_apart {L n : Nat} (hL : 0 < L) {lo hi : Option (List Nat)} (M : MarksOk L lo hi) (ok : OkLH lo hi) (h1 : lenO lo ≤ n) (h2 : lenO hi ≤ n) : valO L lo n < highO L hi n := by
  cases lo with
  | none =>
    cases hi with
    | none => exact Nat.pow_pos hL
    | some h => exact val_pos hL n (M.mhi h rfl).1.ls (M.mhi h rfl).1.na (M.mhi h rfl).1.ne h2
  | some l =>
    cases hi with
    | none => exact val_lt hL n (M.mlo l rfl).1.ls
    | some h => exact (lt_val hL n (M.mlo l rfl).1.ls (M.mhi h rfl).1.ls (M.mlo l rfl).1.na (M.mhi h rfl).1.na h1 h2).mp (ok l h rfl rfl)
theorem val_wide {L n : Nat} (hL : 2 ≤ L) {lo hi : Option (List Nat)} (M : MarksOk L lo hi) (ok : OkLH lo hi) (h1 : lenO lo ≤ n) (h2 : lenO hi ≤ n) : ∀ t, valO L lo (n + t) + (t + 1) ≤ highO L hi (n + t)
  | 0 => val_apart (by omega) M ok h1 h2
  | t + 1 => by
    have ih := val_wide hL M ok h1 h2 t
    rw [show n + (t + 1) = n + t + 1 by omega, valO_succ, highO_succ, figO_end (by omega), figO_end (by omega), Nat.add_zero, Nat.add_zero]
    have := Nat.mul_le_mul_right L ih
    rw [Nat.add_mul] at this
    have h3 : (t + 1) * 2 ≤ (t + 1) * L := Nat.mul_le_mul_left _ hL
    omega
theorem ob_blocks {L : Nat} {es : List Nat} (hL : 0 < L) (E : MM.Ends L es) (v d : Nat) : ob L es (v * L + 1) + d ≤ ob L es ((v + d) * L) := by
  have hp : 0 < es.length := List.length_pos_iff.mpr E.ne
  obtain ⟨e, he⟩ := List.exists_mem_of_ne_nil _ E.ne
  have h1 := E.lo e he
  have h2 := E.hi e he
  have m1 : (v * L + 1) / L = v := by rw [Nat.mul_comm, Nat.mul_add_div hL, Nat.div_eq_of_lt (by omega)]; rfl
  have m2 : (v * L + 1) % L = 1 := by rw [Nat.mul_comm, Nat.mul_add_mod, Nat.mod_eq_of_lt (by omega)]
  unfold ob
  rw [m1, m2, Nat.mul_div_cancel _ hL, Nat.mul_mod_left, Nat.add_zero, cnt_low E.lo]
  have : MM.cnt es (97 + 1) = 0 := by
    unfold MM.cnt
    rw [List.length_eq_zero_iff, List.filter_eq_nil_iff]
    intro e he; have := E.lo e he; simp only [decide_eq_true_eq]; omega
  rw [this, Nat.add_mul]
  have := Nat.le_mul_of_pos_right d hp
  omega
theorem room_last {b : Bool} {L n k : Nat} {es : List Nat} (hL : 2 ≤ L) (E : MM.Ends L es) {lo hi : Option (List Nat)} (M : MarksOk L lo hi) (ok : OkLH lo hi) (h1 : lenO lo ≤ n) (h2 : lenO hi ≤ n) : (k : Int) ≤ roomB b L es lo hi (n + k + 1) := by
  have hv := val_wide hL M ok h1 h2 k
  have hL0 : 0 < L := by omega
  have ea : aheadB b hi (highO L hi (n + k + 1)) (n + k + 1) = highO L hi (n + k + 1) := by
    cases b with
    | false => rfl
    | true =>
      cases hi with
      | none => rfl
      | some h =>
        show (if n + k + 1 < h.length then _ else _) = _
        have h2 : h.length ≤ n := h2
        rw [if_neg (by omega)]
  unfold roomB
  rw [ea, highO_succ, valO_succ, figO_end (by omega), figO_end (by omega), Nat.add_zero, Nat.add_zero]
  have b := ob_blocks hL0 E (valO L lo (n + k)) k
  have m := ob_mono hL0 E (Nat.mul_le_mul_right L (show valO L lo (n + k) + k ≤ highO L hi (n + k) by omega))
  omega
theorem room_last1 {b : Bool} {L n : Nat} {es : List Nat} (hL : 2 ≤ L) (E : MM.Ends L es) {lo hi : Option (List Nat)} (M : MarksOk L lo hi) (ok : OkLH lo hi) (h1 : lenO lo ≤ n) (h2 : lenO hi ≤ n) : 0 < roomB b L es lo hi (n + 1) := by
  have hv := val_apart (by omega) M ok h1 h2
  have hL0 : 0 < L := by omega
  have ea : aheadB b hi (highO L hi (n + 1)) (n + 1) = highO L hi (n + 1) := by
    cases b with
    | false => rfl
    | true =>
      cases hi with
      | none => rfl
      | some h =>
        show (if n + 1 < h.length then _ else _) = _
        have h2 : h.length ≤ n := h2
        rw [if_neg (by omega)]
  unfold roomB
  rw [ea, highO_succ, valO_succ, figO_end h1, figO_end h2, Nat.add_zero, Nat.add_zero]
  have b := ob_blocks hL0 E (valO L lo n) 1
  have m := ob_mono hL0 E (Nat.mul_le_mul_right L (show valO L lo n + 1 ≤ highO L hi n by omega))
  omega
theorem LeastB.len1 {b : Bool} {L n : Nat} {es : List Nat} {lo hi : Option (List Nat)} (A : LeastB b L es lo hi 1 n) (hL : 2 ≤ L) (E : MM.Ends L es) (M : MarksOk L lo hi) (ok : OkLH lo hi) : n ≤ 1 + max (lenO lo) (lenO hi) := by
  rcases Nat.lt_or_ge (1 + max (lenO lo) (lenO hi)) n with z | z
  · have r := room_last1 (b := b) hL E M ok (n := max (lenO lo) (lenO hi)) (Nat.le_max_left _ _) (Nat.le_max_right _ _)
    have := A.less (max (lenO lo) (lenO hi) + 1) (by omega) (by omega)
    omega
  · exact z
def spLeastC : Sp := fun vs H Q _ => ∃ (L : Nat) (es : List Nat) (lo hi : Option (List Nat)) (k : Nat) (b : Bool), vs = [.int L, .str (txt es), oV lo, oV hi, .int k, .bl b] ∧ 2 ≤ L ∧ L ≤ 26 ∧ es.length ≤ 26 ∧ MM.Ends L es ∧ MarksOk L lo hi ∧ OkLH lo hi ∧ 1 ≤ k ∧ k ≤ 10000 ∧ ∀ H' n, Same H H' → LeastB b L es lo hi k n → Q (.int n) H'
def rdLeastC : TS :=
    tSeq (tAsg (tC (.int 0)) (gName 6))
      (tSeq (tAsg (tC (.int 0)) (gName 7))
      (tSeq (tAsg (tC (.int 0)) (gName 8))
      (tSeq (tAsg (tCall spHigh [] E0 (tCons (tVar 0) (tCons (tVar 3) (tCons (tC (.int 0)) tNil)))) (gName 9))
      (tSeq (tWhile (tTest (tOp rLtI (tVar 7) (tVar 4))) (tSeq (tAsg (tOp rAddI (tOp rMulI (tVar 8) (tVar 0)) (tCall spFig [] E0 (tCons (tVar 2) (tCons (tVar 6) tNil)))) (gName 8))
      (tSeq (tAsg (tOp rAddI (tOp rMulI (tVar 9) (tVar 0)) (tCall spFig [] E0 (tCons (tVar 3) (tCons (tVar 6) tNil)))) (gName 9))
      (tSeq (tAsg (tOp rAddI (tVar 6) (tC (.int 1))) (gName 6))
      (tSeq (tAsg (tCall spAhead [] E0 (tCons (tVar 0) (tCons (tVar 1) (tCons (tVar 3) (tCons (tVar 9) (tCons (tVar 6) (tCons (tVar 5) tNil))))))) (gName 10))
      (tAsg (tOp rSubI (tVar 10) (tCall spUpLow [] E0 (tCons (tVar 0) (tCons (tVar 1) (tCons (tVar 8) tNil))))) (gName 7)))))))
      (tRet (tVar 6))))))
theorem read_leastC {N : List Str} {vs : List V} {H : Hp} {Q : VK} {E : XK} (hN : N.length = 11) (h : spLeastC vs H Q E) : rdLeastC { nx := fun _ H' => Q .non H', rt := Q } (L2.start N vs) H := by
  obtain ⟨L, es, lo, hi, k, b, rfl, hl2, hl26, hel, EN, M, ok, hk1, hk2, q1⟩ := h
  unfold rdLeastC L2.start
  rw [hN]
  have hL0 : 0 < L := by omega
  obtain ⟨okl, okh⟩ := M.okO hl26
  have hlen := M.lens
  and_intros
  refine ⟨L, hi, 0, rfl, hl26, okh, by omega, ?_⟩
  have rl := room_last (b := b) (n := max (lenO lo) (lenO hi)) (k := k) hl2 EN M ok (Nat.le_max_left _ _) (Nat.le_max_right _ _)
  have mx : max (lenO lo) (lenO hi) = lenO lo ∨ max (lenO lo) (lenO hi) = lenO hi := by omega
  generalize max (lenO lo) (lenO hi) = N1 at rl mx
  obtain ⟨N0, hN0⟩ : ∃ N0, N0 = N1 + k := ⟨_, rfl⟩
  rw [← hN0] at rl
  refine while_of (fun m σ H' => ∃ (n : Nat) (r : Int) (v10 : Option V), Same H H' ∧ σ = [some (.int L), some (.str (txt es)), some (oV lo), some (oV hi), some (.int k), some (.bl b), some (.int n), some (.int r), some (.int (valO L lo n : Nat)), some (.int (highO L hi n : Nat)), v10] ∧ n ≤ N0 + 1 ∧ m = N0 + 1 - n ∧ ((n = 0 ∧ r = 0) ∨ (1 ≤ n ∧ r = roomB b L es lo hi n)) ∧ ∀ m', 1 ≤ m' → m' < n → roomB b L es lo hi m' < k) (N0 + 1)
    ⟨0, 0, none, Same.refl _, by rw [valO_zero]; rfl, by omega, by omega, .inl ⟨rfl, rfl⟩, fun m' h1 h2 => by omega⟩ ?_
  rintro m σ H2 ⟨n, r, v10, s2, rfl, hn, hm, hr, hp⟩ R hgo hstop
  and_intros
  by_cases hr1 : r < k
  · rw [decide_eq_true hr1]
    refine hgo H2 ?_
    have hnN : n ≤ N0 := by
      by_cases z : n = N0 + 1
      · subst z
        rcases hr with ⟨z, _⟩ | ⟨_, z⟩
        · omega
        · omega
      · omega
    and_intros
    refine ⟨mulB_r (by omega) (by omega), lo, n, rfl, okl, ?_⟩
    and_intros
    refine ⟨mulB_r (by omega) (by omega), hi, n, rfl, okh, ?_⟩
    and_intros
    have e1 : ((valO L lo n : Nat) : Int) * (L : Int) + (figO lo n : Nat) = (valO L lo (n + 1) : Nat) := by rw [valO_succ, Int.natCast_add, Int.natCast_mul]
    have e2 : ((highO L hi n : Nat) : Int) * (L : Int) + (figO hi n : Nat) = (highO L hi (n + 1) : Nat) := by rw [highO_succ, Int.natCast_add, Int.natCast_mul]
    have e3 : (n : Int) + 1 = ((n + 1 : Nat) : Int) := rfl
    rw [e1, e2, e3]
    refine ⟨L, es, hi, _, n + 1, b, rfl, hL0, hl26, hel, okh, fun H3 s3 => ?_⟩
    refine ⟨L, es, _, rfl, hL0, hl26, hel, fun H4 s4 => ?_⟩
    and_intros
    refine ⟨N0 + 1 - (n + 1), by omega, (s2.trans s3).trans s4, n + 1, roomB b L es lo hi (n + 1), _, rfl, by omega, rfl, .inr ⟨by omega, rfl⟩, fun m' h1 h2 => ?_⟩
    by_cases z : m' = n
    · subst z
      rcases hr with ⟨z, _⟩ | ⟨_, z⟩
      · omega
      · omega
    · exact hp m' h1 (by omega)
  · rw [decide_eq_false hr1]
    refine hstop H2 ?_
    and_intros
    rcases hr with ⟨z, z2⟩ | ⟨z, rfl⟩
    · omega
    · exact q1 _ n s2 ⟨z, by omega, by omega, hp⟩
def toldI : Option (List Nat) → Option (List Nat) → Int → Int
  | some _, none, _ => 0
  | none, some _, z => z - 1
  | _, _, z => (z - 1) / 2
structure Found (L : Nat) (es : List Nat) (lo hi : Option (List Nat)) (n w : Nat) (m : List Nat) : Prop where
  least : LeastB true L es lo hi 1 n
  eq : m = low L w n
  own : ow L es w = true
  ge : valO L lo n + 1 ≤ w
  lt : w < aheadN hi (highO L hi n) n
  at_ : (ob L es w : Int) = (ob L es (valO L lo n + 1) : Int) + toldI lo hi (roomI L es lo hi n)
theorem told_in (lo hi : Option (List Nat)) {z : Int} (h : 0 < z) : 0 ≤ toldI lo hi z ∧ toldI lo hi z < z := by
  cases lo <;> cases hi <;> simp only [toldI] <;> omega
theorem own_iff {L h j : Nat} (hL : 0 < L) (w : Nat) : ow L (endsL L h j) w = true ↔ 0 < w % L ∧ (w % L - 1) % h = j := by
  unfold ow
  rw [decide_eq_true_iff, endsL_mem]
  have := Nat.mod_lt w hL
  constructor
  · rintro ⟨i, h1, h2, h3⟩
    have : w % L = i + 1 := by omega
    rw [this]
    exact ⟨by omega, h2⟩
  · rintro ⟨h1, h2⟩
    exact ⟨w % L - 1, by omega, h2, by omega⟩
theorem low_iff {L w n : Nat} (hL : 0 < L) (hw : w < L ^ (n + 1)) (h0 : w % L ≠ 0) {l : List Nat} (hl : Ls L l) : l < low L w (n + 1) ↔ val L l (n + 1) + 1 ≤ w := by
  rw [low_val hL (n + 1) hl (low_ls hL _ _) (fun c hc => by rw [low_last hL] at hc; have := Option.some.inj hc; omega) (low_length _ _ _), low_val_eq hL, Nat.mod_eq_of_lt hw]
  omega
theorem high_iff {L w n : Nat} (hL : 0 < L) (hw : w < L ^ n) {h : List Nat} (hh : Ls L h) (na : Na h) : low L w n < h ↔ w < aheadN (some h) (val L h n) n := by
  rw [high_val hL n hh (low_ls hL _ _) na (low_length _ _ _), low_val_eq hL, Nat.mod_eq_of_lt hw]
  have e : aheadN (some h) (val L h n) n = if n < h.length then val L h n + 1 else val L h n := rfl
  rw [e]
  by_cases z : n < h.length
  · rw [if_pos z]; omega
  · rw [if_neg z]; omega
theorem ahead_le {L : Nat} (n : Nat) (hL : 0 < L) {lo hi : Option (List Nat)} (M : MarksOk L lo hi) : aheadN hi (highO L hi n) n ≤ L ^ n := by
  cases hi with
  | none => exact Nat.le_refl _
  | some h =>
    have v := val_lt hL n (M.mhi h rfl).1.ls
    show (if n < h.length then val L h n + 1 else val L h n) ≤ L ^ n
    split <;> omega
end L2
set_option Elab.async false
set_option linter.all false
set_option maxRecDepth 100000
set_option maxHeartbeats 4000000
namespace L2
open PySem PySem.Spec PyProof.Rows MM
def rdDraw2 (K : PySem.W.Frag) : TS :=
    tSeq (tAsg (tIf (tTest (tOp rGtI (tCB (rLenL K) (tCons (tVar 0) tNil)) (tC (.int 0)))) (tOp (rIxL K) (tVar 0) (tOp rModI (tVar 1) (tCB (rLenL K) (tCons (tVar 0) tNil)))) (tC (.int 0))) (gName 3))
      (tSeq (tIfS (tAnd (tTest (tOp rGtI (tCB (rLenL K) (tCons (tVar 0) tNil)) (tC (.int 0)))) (tTest (tOp rEq (tOp rModI (tOp rDivI (tOp (rIxL K) (tVar 0) (tC (.int 0))) (tC (.int 7))) (tC (.int 2))) (tC (.int 1))))) (tSeq (tFor (iRng1 (tCons (tOp rModI (tOp rDivI (tVar 1) (tCB (rLenL K) (tCons (tVar 0) tNil))) (tC (.int 60))) tNil)) (gName 4) (tAsg (tOp rDivI (tVar 3) (tC (.int 1000003))) (gName 3)))
      (tRet (tOp rModI (tOp rModI (tVar 3) (tC (.int 1000003))) (tVar 2)))) (tNext))
      (tSeq (tAsg (tOp rAddI (tOp rAddI (tOp rModI (tVar 3) (tC (.int 1000003))) (tOp rMulI (tOp rMulI (tC (.int 31)) (tVar 1)) (tVar 1))) (tC (.int 1))) (gName 5))
      (tRet (tOp rModI (tOp rModI (tOp rMulI (tOp rModI (tOp rMulI (tVar 5) (tC (.int 48271))) (tC (.int 999983))) (tC (.int 7919))) (tC (.int 524287))) (tVar 2)))))
theorem read_draw2 {K : PySem.W.Frag} {N : List Str} {vs : List V} {H : Hp} {Q : VK} {E : XK} (hN : N.length = 6) (h : spDraw K vs H Q E) : rdDraw2 K { nx := fun _ H' => Q .non H', rt := Q } (L2.start N vs) H := by
  obtain ⟨a, ns, k, m, rfl, hS, hl, h0, h1, h2, q⟩ := h
  unfold rdDraw2 L2.start
  rw [hN]
  and_intros
  refine lenI_go hS ⟨_, rfl, ?_⟩
  by_cases hn : (0 : Int) < (ns.length : Int)
  · rw [if_pos hn]
    refine lenI_go hS ⟨_, rfl, hn, ixI_go hS (Int.emod_nonneg _ (by omega)) (Int.emod_lt_of_pos _ hn) fun z _ _ => ?_⟩
    refine lenI_go hS ⟨_, rfl, ?_⟩
    rw [if_pos hn]
    refine ixI_go hS (by decide) hn fun z0 _ _ => ⟨_, rfl, cdiv (by decide) (by decide), by decide, rfl, ?_⟩
    split
    · have e0 : 0 ≤ k / (ns.length : Int) % 60 := Int.emod_nonneg _ (by decide)
      have e1 : k / (ns.length : Int) % 60 < 60 := Int.emod_lt_of_pos _ (by decide)
      refine for_r1 (j := k / (ns.length : Int) % 60) (fun Q h => by
        and_intros
        exact lenI_go hS ⟨_, rfl, cdiv hn (by omega), by decide, h⟩) (by omega) (by omega) (fun i σ H' => H' = H ∧ ∃ (c : Int) (v4 : Option V), σ = [some (.ref a), some (.int k), some (.int m), some (.int c), v4, none]) ⟨rfl, _, _, rfl⟩ ?_ ?_
      · rintro i σ H1 hi ⟨rfl, c, v4, rfl⟩
        and_intros
        exact ⟨cdiv (by decide) (by decide), _, _, rfl⟩
      · rintro σ H1 ⟨rfl, c, v4, rfl⟩
        and_intros
        exact ⟨by decide, h2, q _ (Int.emod_nonneg _ (by omega)) (Int.emod_lt_of_pos _ h2)⟩
    · exact ⟨_, rfl, draw_end (Q := fun r => Q (.int r) H) h0 h1 h2 q⟩
  · rw [if_neg hn]
    refine lenI_go hS ⟨_, rfl, ?_⟩
    rw [if_neg hn]
    exact draw_end (Q := fun r => Q (.int r) H) h0 h1 h2 q
def endI (L : Nat) (s n : Int) : Int := if n ≤ 1 + s then 1 else 2 + (n - 2 - s) / ((L : Int) - 1)
end L2
set_option Elab.async false
set_option linter.all false
set_option maxRecDepth 100000
set_option maxHeartbeats 4000000
namespace L2
open PySem PySem.Spec PyProof.Rows MM
theorem even_ge {i k R : Nat} (h : k ≤ R) : i + 1 ≤ (i + 1) * (R + 1) / (k + 1) := by
  rw [Nat.le_div_iff_mul_le (by omega)]
  exact Nat.mul_le_mul_left _ (by omega)
theorem even_lt {i k R : Nat} (h : i < k) : (i + 1) * (R + 1) / (k + 1) < R + 1 := by
  rw [Nat.div_lt_iff_lt_mul (by omega), Nat.mul_comm (R + 1)]
  exact Nat.mul_lt_mul_of_pos_right (by omega) (by omega)
theorem even_rise {i k R : Nat} (h : k ≤ R) : (i + 1) * (R + 1) / (k + 1) + 1 ≤ (i + 1 + 1) * (R + 1) / (k + 1) := by
  rw [Nat.le_div_iff_mul_le (by omega), Nat.add_mul, Nat.one_mul, Nat.add_mul (i + 1) 1, Nat.one_mul]
  have := Nat.div_mul_le_self ((i + 1) * (R + 1)) (k + 1)
  omega
end L2
set_option Elab.async false
set_option linter.all false
set_option maxRecDepth 100000
set_option maxHeartbeats 4000000
namespace L2
open PySem PySem.Spec PyProof.Rows MM
structure IsRen (L m n : Nat) : Prop where
  lt : m < L ^ n
  less : ∀ i, i < n → L ^ i ≤ m
theorem IsRen.one {L m a b : Nat} (A : IsRen L m a) (B : IsRen L m b) : a = b := by
  rcases Nat.lt_trichotomy a b with h | h | h
  · have := B.less a h; have := A.lt; omega
  · exact h
  · have := A.less b h; have := B.lt; omega
theorem IsRen.le {L m n : Nat} (A : IsRen L m n) (hL : 2 ≤ L) : n ≤ m := by
  rcases Nat.lt_or_ge m n with h | h
  · have h1 := A.less m h
    have := Nat.lt_pow_self (n := m) (show 1 < L by omega)
    omega
  · exact h
def renW (L m n k : Nat) : Nat := (k + 1) * L ^ n / (m + 1)
def renL (L m n : Nat) : List (List Nat) := (List.range m).map fun k => mk L (renW L m n k) n
theorem renW_in {L m n k : Nat} (R : IsRen L m n) (hk : k < m) : 0 < renW L m n k ∧ renW L m n k < L ^ n := by
  have h := R.lt
  obtain ⟨r, hr⟩ : ∃ r, L ^ n = r + 1 := ⟨L ^ n - 1, by omega⟩
  unfold renW
  rw [hr]
  have := even_ge (i := k) (k := m) (R := r) (by omega)
  have := even_lt (R := r) hk
  omega
theorem renW_rise {L m n k : Nat} (R : IsRen L m n) : renW L m n k < renW L m n (k + 1) := by
  have h := R.lt
  obtain ⟨r, hr⟩ : ∃ r, L ^ n = r + 1 := ⟨L ^ n - 1, by omega⟩
  unfold renW
  rw [hr]
  have := even_rise (i := k) (k := m) (R := r) (by omega)
  omega
theorem renW_lt {L m n i : Nat} (R : IsRen L m n) : ∀ {j : Nat}, i < j → renW L m n i < renW L m n j
  | j + 1, h => by
    have h1 := renW_rise (k := j) R
    rcases Nat.eq_or_lt_of_le (Nat.le_of_lt_succ h) with e | h2
    · subst e; exact h1
    · exact Nat.lt_trans (renW_lt R h2) h1
theorem renL_lt {L m n : Nat} (hL : 0 < L) (R : IsRen L m n) : (renL L m n).Pairwise (· < ·) := by
  unfold renL
  rw [List.pairwise_map]
  refine List.Pairwise.imp_of_mem ?_ (List.pairwise_lt_range (n := m))
  intro i j hi hj hij
  have hi := List.mem_range.mp hi
  have hj := List.mem_range.mp hj
  have a := renW_in R hi
  have b := renW_in R hj
  have c := renW_lt R hij
  rw [lt_val hL n (mk_ls hL _ _) (mk_ls hL _ _) (mk_na _ _ _) (mk_na _ _ _) (mk_len _ _ _) (mk_len _ _ _), mk_val hL a.2, mk_val hL b.2]
  exact c
theorem renL_mem {L m n : Nat} (hL : 0 < L) (R : IsRen L m n) : ∀ x ∈ renL L m n, Mark L x ∧ x.length ≤ n := fun x hx => by
  unfold renL at hx
  obtain ⟨k, hk, rfl⟩ := List.mem_map.mp hx
  have a := renW_in R (List.mem_range.mp hk)
  exact ⟨mk_mark hL a.1 a.2, mk_len _ _ _⟩
theorem renL_len (L m n : Nat) : (renL L m n).length = m := by
  unfold renL
  rw [List.length_map, List.length_range]
end L2
set_option Elab.async false
set_option linter.all false
set_option maxRecDepth 100000
set_option maxHeartbeats 4000000
namespace L2
open PySem PySem.Spec PyProof.Rows MM
def Prs (H : Hp) : List V → List (V × V) → Prop
  | [], [] => True
  | x :: xs, p :: ps => (∃ t, x = .ref t ∧ H t = some (.tup [p.1, p.2])) ∧ Prs H xs ps
  | _, _ => False
theorem Prs.keep {H H' : Hp} (k : ∀ t ys, H t = some (.tup ys) → H' t = some (.tup ys)) : ∀ {xs : List V} {ps : List (V × V)}, Prs H xs ps → Prs H' xs ps
  | [], [], _ => trivial
  | [], _ :: _, h => h.elim
  | _ :: _, [], h => h.elim
  | _ :: _, _ :: _, ⟨⟨t, e, h⟩, r⟩ => ⟨⟨t, e, k t _ h⟩, Prs.keep k r⟩
theorem Prs.same {H H' : Hp} {xs : List V} {ps : List (V × V)} (h : Prs H xs ps) (s : Same H H') : Prs H' xs ps := h.keep fun t ys e => s t _ e
theorem Prs.app {H : Hp} : ∀ {xs : List V} {ps : List (V × V)} {ys : List V} {qs : List (V × V)}, Prs H xs ps → Prs H ys qs → Prs H (xs ++ ys) (ps ++ qs)
  | [], [], _, _, _, h => h
  | [], _ :: _, _, _, h, _ => h.elim
  | _ :: _, [], _, _, h, _ => h.elim
  | _ :: _, _ :: _, _, _, ⟨a, r⟩, h => ⟨a, Prs.app r h⟩
theorem Prs.len {H : Hp} : ∀ {xs : List V} {ps : List (V × V)}, Prs H xs ps → xs.length = ps.length
  | [], [], _ => rfl
  | [], _ :: _, h => h.elim
  | _ :: _, [], h => h.elim
  | _ :: _, _ :: _, ⟨_, r⟩ => by rw [List.length_cons, List.length_cons, Prs.len r]
theorem Prs.get {H : Hp} : ∀ {xs : List V} {ps : List (V × V)} {i : Nat} {x : V}, Prs H xs ps → xs[i]? = some x → ∃ p t, ps[i]? = some p ∧ x = .ref t ∧ H t = some (.tup [p.1, p.2])
  | [], _, _, _, _, e => by simp at e
  | _ :: _, [], _, _, h, _ => h.elim
  | _ :: _, p :: _, 0, _, ⟨⟨t, e1, h⟩, _⟩, e => by
    have : _ = _ := Option.some.inj e
    subst this
    exact ⟨p, t, rfl, e1, h⟩
  | _ :: _, _ :: _, i + 1, _, ⟨_, r⟩, e => by
    obtain ⟨p, t, a, b, c⟩ := Prs.get r (i := i) (by simpa using e)
    exact ⟨p, t, by simpa using a, b, c⟩
def flatD : V → PyData
  | .bl b => .bool b
  | .int i => .int i
  | .str x => .str x
  | _ => .none
inductive OkV : V → Prop where
  | non : OkV .non
  | bl (b : Bool) : OkV (.bl b)
  | str {l : List Nat} (h : PyData.strOk (txt l) = true) : OkV (.str (txt l))
theorem OkV.dat {K : PySem.W.Frag} {H : Hp} {v : V} (h : OkV v) : Dat K H v (flatD v) := by
  cases h with
  | non => exact .non
  | bl b => exact .bl b
  | str h => exact .str _
def pairD (ps : List (V × V)) : List PyData := ps.map fun p => .tuple [flatD p.1, flatD p.2]
theorem Prs.dat {K : PySem.W.Frag} {H : Hp} : ∀ {xs : List V} {ps : List (V × V)}, Prs H xs ps → (∀ p ∈ ps, OkV p.1 ∧ OkV p.2) → DatAll K H xs (pairD ps)
  | [], [], _, _ => .nil
  | [], _ :: _, h, _ => h.elim
  | _ :: _, [], h, _ => h.elim
  | _ :: _, p :: _, ⟨⟨t, e, h⟩, r⟩, ok => by
    subst e
    have o := ok p List.mem_cons_self
    exact .cons (.tup (SqT.of h) (.cons o.1.dat (.cons o.2.dat .nil))) (Prs.dat r fun q hq => ok q (List.mem_cons_of_mem _ hq))
theorem lay_flat {v : V} (h : OkV v) : PyData.canLay0 (flatD v) = true ∧ PyData.depth (flatD v) = 0 := by
  cases h with
  | non => exact ⟨by simp [flatD, PyData.canLay0], by simp [flatD, PyData.depth]⟩
  | bl b => exact ⟨by simp [flatD, PyData.canLay0], by simp [flatD, PyData.depth]⟩
  | str h => exact ⟨by simp [flatD, PyData.canLay0, h], by simp [flatD, PyData.depth]⟩
theorem lay_pairs : ∀ {ps : List (V × V)}, (∀ p ∈ ps, OkV p.1 ∧ OkV p.2) → PyData.canLayAll0 (pairD ps) = true ∧ PyData.depthAll (pairD ps) ≤ 1
  | [], _ => ⟨by simp [pairD, PyData.canLayAll0], by simp [pairD, PyData.depthAll]⟩
  | p :: ps, ok => by
    obtain ⟨a, b⟩ := lay_pairs fun q hq => ok q (List.mem_cons_of_mem _ hq)
    obtain ⟨o1, o2⟩ := ok p List.mem_cons_self
    obtain ⟨c1, d1⟩ := lay_flat o1
    obtain ⟨c2, d2⟩ := lay_flat o2
    have e : pairD (p :: ps) = .tuple [flatD p.1, flatD p.2] :: pairD ps := rfl
    rw [e]
    refine ⟨by simp [PyData.canLayAll0, PyData.canLay0, c1, c2, a], ?_⟩
    simp only [PyData.depthAll, PyData.depth, d1, d2]
    omega
theorem shaped_pairs {ps : List (V × V)} (ok : ∀ p ∈ ps, OkV p.1 ∧ OkV p.2) : SeqAt.shaped (.list (pairD ps)) = true := by
  obtain ⟨a, b⟩ := lay_pairs ok
  unfold SeqAt.shaped
  rw [Bool.and_eq_true]
  refine ⟨by simpa [PyData.canLay0] using a, ?_⟩
  rw [decide_eq_true_eq]
  simp only [PyData.depth]
  omega
theorem eq_pairs {K : PySem.W.Frag} {H : Hp} {a b : Addr} {xs ys : List V} {ps : List (V × V)} {Q : VK} (ha : SqL K H a xs) (hb : SqL K H b ys) (pa : Prs H xs ps) (pb : Prs H ys ps) (ok : ∀ p ∈ ps, OkV p.1 ∧ OkV p.2) (q : Q (.bl false) H) : rNeD K (.ref a) (.ref b) H Q := by
  refine ⟨.list (pairD ps), .list (pairD ps), .lst ha (pa.dat ok), .lst hb (pb.dat ok), shaped_pairs ok, shaped_pairs ok, ?_⟩
  rw [SeqAt.eqv_refl _ (SeqAt.canLay_of_shaped (shaped_pairs ok))]
  exact q
def stand (ks : List (List Nat × Bool)) : Nat := (ks.filter fun k => k.2).length
def rowsFrom (fr : List (List Nat)) : Nat → List (List Nat × Bool) → List (V × V)
  | _, [] => []
  | g, (m, true) :: ks => (strV m, strV (fr.getD g [])) :: rowsFrom fr (g + 1) ks
  | g, (m, false) :: ks => (strV m, .non) :: rowsFrom fr g ks
def RowsInv (L : Nat) (p p2 p3 : Addr) (H2 : Hp) (fr : List (List Nat)) (ks : List (List Nat × Bool)) : Nat → St → Hp → Prop := fun i σ H' => ∃ (g : Nat) (ys : List V) (ps : List (V × V)) (v5 v6 : Option V), Same H2 H' ∧ H' p3 = some (.lst ys) ∧ Prs H' ys ps ∧ σ = [some (.int L), some (.ref p), some (.ref p2), some (.ref p3), some (.int g), v5, v6] ∧ ps ++ rowsFrom fr g (ks.drop i) = rowsFrom fr 0 ks ∧ g + stand (ks.drop i) = stand ks ∧ ys.length = i
theorem keep_list {H : Hp} {t r : Addr} {o : HO} {ys zs : List V} (ht : H t = none) (hr : H r = some (.lst ys)) : ∀ u xs, H u = some (.tup xs) → (upd (upd H t o) r (.lst zs)) u = some (.tup xs) := fun u xs e => by
  rw [upd_ne (fun z => by subst z; rw [hr] at e; cases e), upd_ne (fun z => by subst z; rw [ht] at e; cases e)]
  exact e
theorem drop_get {α : Type} {l : List α} {i : Nat} {x : α} (h : l[i]? = some x) : l.drop i = x :: l.drop (i + 1) := by
  obtain ⟨h1, h2⟩ := List.getElem?_eq_some_iff.mp h
  rw [List.drop_eq_getElem_cons h1, h2]
end L2
set_option Elab.async false
set_option linter.all false
set_option maxRecDepth 100000
set_option maxHeartbeats 4000000
namespace L2
open PySem PySem.Spec PyProof.Rows MM
def spLetters (K : PySem.W.Frag) : Sp := fun vs H Q _ => ∃ (a : Addr) (ns : List Int), vs = [.ref a] ∧ SqL K H a (ns.map V.int) ∧ ns.length ≤ 63 ∧ ∀ H' (L : Nat), Same H H' → 2 ≤ L → L ≤ 26 → Q (.int L) H'
def rdLetters (K : PySem.W.Frag) : TS :=
    tRet (tOp (rIxL K) (tLst (tCons (tC (.int 2)) (tCons (tC (.int 3)) (tCons (tC (.int 4)) (tCons (tC (.int 10)) (tCons (tC (.int 26)) (tCons (tOp rAddI (tC (.int 2)) (tCall (spDraw K) [] E0 (tCons (tVar 0) (tCons (tC (.int 1)) (tCons (tC (.int 25)) tNil))))) tNil))))))) (tCall (spDraw K) [] E0 (tCons (tVar 0) (tCons (tC (.int 0)) (tCons (tC (.int 6)) tNil)))))
theorem read_letters {K : PySem.W.Frag} {N : List Str} {vs : List V} {H : Hp} {Q : VK} {E : XK} (hN : N.length = 1) (h : spLetters K vs H Q E) : rdLetters K { nx := fun _ H' => Q .non H', rt := Q } (L2.start N vs) H := by
  obtain ⟨sc, ns, rfl, hS, hl, q⟩ := h
  unfold rdLetters L2.start
  rw [hN]
  and_intros
  refine ⟨sc, ns, _, _, rfl, hS, hl, by decide, by decide, by decide, fun r hr0 hr1 => ?_⟩
  and_intros
  refine ⟨by decide, fun p hp => ?_⟩
  refine ⟨sc, ns, _, _, rfl, hS.up hp, hl, by decide, by decide, by decide, fun r' hr0' hr1' => ?_⟩
  refine ixI_go (ns := [2, 3, 4, 10, 26, 2 + r]) SqL.here hr0' (by simpa using hr1') fun z hz _ => ?_
  have hzb : 2 ≤ z ∧ z ≤ 26 := by
    simp only [List.mem_cons, List.not_mem_nil, or_false] at hz
    omega
  obtain ⟨L, rfl⟩ := Int.eq_ofNat_of_zero_le (a := z) (by omega)
  exact q _ L (Same.up _ hp) (by omega) (by omega)
def spText : Sp := fun vs H Q _ => ∃ (L r n : Nat), vs = [.int L, .int r, .int n] ∧ 0 < L ∧ L ≤ 26 ∧ n ≤ 100000 ∧ Q (.str (txt (mk L r n))) H
def rdText (K : PySem.W.Frag) : TS :=
    tSeq (tAsg (tC (.str (txt []))) (gName 3))
      (tSeq (tFor (iRng1 (tCons (tVar 2) tNil)) (gName 4) (tSeq (tAsg (tOp rAddS (tOp rIxStr (tC (.str (txt ABC))) (tOp rModI (tVar 1) (tVar 0))) (tVar 3)) (gName 3))
      (tAsg (tOp rDivI (tVar 1) (tVar 0)) (gName 1))))
      (tRet (tBM K "str" rRstrip (tVar 3) (tCons (tC (.str (txt [97]))) tNil))))
theorem read_text {K : PySem.W.Frag} {N : List Str} {vs : List V} {H : Hp} {Q : VK} {E : XK} (hN : N.length = 5) (h : spText vs H Q E) : rdText K { nx := fun _ H' => Q .non H', rt := Q } (L2.start N vs) H := by
  obtain ⟨L, r, n, rfl, hL0, hL, hn, q⟩ := h
  unfold rdText L2.start
  rw [hN]
  and_intros
  refine for_r1 (j := n) (fun Q h => ⟨_, rfl, h⟩) (by omega) (by omega) (fun i σ H' => H' = H ∧ ∃ v4, σ = [some (.int L), some (.int (r / L ^ i : Nat)), some (.int n), some (.str (txt (low L r i))), v4]) ⟨rfl, _, by rw [Nat.pow_zero, Nat.div_one]; rfl⟩ ?_ ?_
  · rintro i σ H1 hi ⟨rfl, v4, rfl⟩
    have e1 : ((r / L ^ i : Nat) : Int) % (L : Int) = ((r / L ^ i % L : Nat) : Int) := (Int.natCast_emod _ _).symm
    have e2 : ((r / L ^ i : Nat) : Int) / (L : Int) = ((r / L ^ (i + 1) : Nat) : Int) := by rw [Nat.pow_succ, ← Nat.div_div_eq_div_mul]; exact (Int.natCast_ediv _ _).symm
    have hb := Nat.mod_lt (r / L ^ i) hL0
    and_intros
    rw [e1, e2]
    refine ⟨by omega, ixABC_go (by omega) (by omega) (addS_go (by rw [low_length]; simp only [List.length_cons, List.length_nil]; omega) ⟨cdiv (by omega) (by omega), ?_⟩)⟩
    exact ⟨rfl, some (.int i), by rw [Int.toNat_natCast]; rfl⟩
  · rintro σ H1 ⟨rfl, v4, rfl⟩
    and_intros
    rw [Int.toNat_natCast]
    exact ⟨rfl, rstrip_go (by rw [low_length]; exact hn) q⟩
def spMark41 (K : PySem.W.Frag) : Sp := fun vs H Q _ => ∃ (a : Addr) (ns : List Int) (b : Int) (L : Nat), vs = [.ref a, .int b, .int L] ∧ SqL K H a (ns.map V.int) ∧ ns.length ≤ 63 ∧ 0 ≤ b ∧ b ≤ 100000 ∧ 2 ≤ L ∧ L ≤ 26 ∧ ∀ H' m, Same H H' → Mark L m → m.length ≤ 41 → Q (.str (txt m)) H'
def rdMark41 (K : PySem.W.Frag) : TS :=
    tSeq (tAsg (tC (.str (txt ABC))) (gName 3))
      (tSeq (tAsg (tOp (rIxL K) (tLst (tCons (tCall (spDraw K) [] E0 (tCons (tVar 0) (tCons (tVar 1) (tCons (tC (.int 4)) tNil)))) (tCons (tCall (spDraw K) [] E0 (tCons (tVar 0) (tCons (tVar 1) (tCons (tC (.int 8)) tNil)))) (tCons (tC (.int 40)) tNil)))) (tOp rDivI (tCall (spDraw K) [] E0 (tCons (tVar 0) (tCons (tOp rAddI (tVar 1) (tC (.int 1))) (tCons (tC (.int 9)) tNil)))) (tC (.int 4)))) (gName 4))
      (tSeq (tAsg (tOp (rIxL K) (tLst (tCons (tVar 2) (tCons (tCB rMin2 (tCons (tC (.int 2)) (tCons (tVar 2) tNil))) tNil))) (tCall (spDraw K) [] E0 (tCons (tVar 0) (tCons (tOp rAddI (tVar 1) (tC (.int 2))) (tCons (tC (.int 2)) tNil))))) (gName 5))
      (tSeq (tAsg (tBM K "str" (rJoin K) (tC (.str (txt []))) (tCons (tComp (iRng1 (tCons (tVar 4) tNil)) [3, 0, 5, 1] tYes (tOp rIxStr (tVar 1) (tCall (spDraw K) [] E0 (tCons (tVar 2) (tCons (tOp rAddI (tOp rAddI (tVar 4) (tC (.int 3))) (tOp rMulI (tC (.int 2)) (tVar 0))) (tCons (tVar 3) tNil)))))) tNil)) (gName 6))
      (tRet (tOp rAddS (tVar 6) (tOp rIxStr (tVar 3) (tOp rAddI (tC (.int 1)) (tCall (spDraw K) [] E0 (tCons (tVar 0) (tCons (tOp rAddI (tVar 1) (tC (.int 90))) (tCons (tOp rSubI (tVar 2) (tC (.int 1))) tNil)))))))))))
theorem read_mark41 {K : PySem.W.Frag} {N : List Str} {vs : List V} {H : Hp} {Q : VK} {E : XK} (hN : N.length = 7) (h : spMark41 K vs H Q E) : rdMark41 K { nx := fun _ H' => Q .non H', rt := Q } (L2.start N vs) H := by
  obtain ⟨sc, ns, b, L, rfl, hS, hl, hb0, hb1, hL, hL26, q⟩ := h
  unfold rdMark41 L2.start
  rw [hN]
  refine seq_set fun c hc => ?_
  and_intros
  refine hc _ _ ?_
  clear hc c
  refine seq_set fun c hc => ?_
  and_intros
  refine ⟨sc, ns, _, _, rfl, hS, hl, by omega, by omega, by decide, fun r1 h10 h11 => ?_⟩
  refine ⟨sc, ns, _, _, rfl, hS, hl, by omega, by omega, by decide, fun r2 h20 h21 => ?_⟩
  refine ⟨by decide, fun p hp => ?_⟩
  refine ⟨sc, ns, _, _, rfl, hS.up hp, hl, by omega, by omega, by decide, fun r3 h30 h31 => ?_⟩
  and_intros
  refine ⟨cdiv (by decide) (by decide), ?_⟩
  refine ixI_go (ns := [r1, r2, 40]) SqL.here (by omega) (by simp only [List.length_cons, List.length_nil]; omega) fun z hz _ => hc _ _ ?_
  clear hc c
  have hzb : 0 ≤ z ∧ z ≤ 40 := by
    simp only [List.mem_cons, List.not_mem_nil, or_false] at hz
    omega
  have s1 := Same.up (o := HO.lst [V.int r1, V.int r2, V.int 40]) H hp
  generalize upd H p _ = H1 at s1 ⊢
  have hS1 := s1.seq hS
  refine seq_set fun c hc => ?_
  and_intros
  refine ⟨_, _, rfl, by decide, fun p2 hp2 => ?_⟩
  refine ⟨sc, ns, _, _, rfl, hS1.up hp2, hl, by omega, by omega, by decide, fun r4 h40 h41 => ?_⟩
  refine ixI_go (ns := [(L : Int), if (L : Int) < 2 then (L : Int) else 2]) SqL.here (by omega) (by simp only [List.length_cons, List.length_nil]; omega) fun f hf _ => hc _ _ ?_
  clear hc c
  have hfb : 2 ≤ f ∧ f ≤ L := by
    simp only [List.mem_cons, List.not_mem_nil, or_false] at hf
    rw [if_neg (by omega)] at hf
    omega
  have s2 := s1.new (o := HO.lst [V.int (L : Int), V.int (if (L : Int) < 2 then (L : Int) else 2)]) hp2
  generalize upd H1 p2 _ = H2 at s2 ⊢
  have hS2 := s2.seq hS
  refine seq_set fun c hc => ?_
  suffices main : ∀ (H3 : Hp) (t : List Nat), Same H2 H3 → Ls L t → t.length ≤ 40 → c (.str (txt t)) H3 by
    and_intros
    refine ⟨rfl, ?_⟩
    refine comp_r1 (j := z) (fun Q h => ⟨_, rfl, h⟩) (by omega) (by omega) (Nat.le_trans (show z.toNat ≤ 100000 by omega) (by decide))
      (fun i ys H' => H' = H2 ∧ ∃ t : List Nat, ys = (t.map fun c => strV [c]) ∧ t.length = i ∧ Ls L t) ⟨rfl, [], rfl, rfl, Ls.nil L⟩
      (fun i ys H' _ p => by obtain ⟨_, t, e, e2, _⟩ := p; rw [e, List.length_map, e2]; exact Nat.le_refl _) ?_ ?_
    · rintro i ys H' hi ⟨rfl, t, rfl, et, ht⟩ R hR
      and_intros
      refine ⟨mulB_l (by decide) (by decide), sc, ns, _, _, rfl, hS2, hl, by omega, by omega, by omega, fun r h0 h1 => ?_⟩
      refine ixABC_go h0 (by omega) (hR _ _ ⟨rfl, t ++ [97 + r.toNat], by rw [List.map_append]; rfl, by rw [List.length_append, et]; rfl, ht.app fun c hc => ?_⟩)
      rw [List.mem_singleton.mp hc]; omega
    · rintro ys H' ⟨rfl, t, rfl, et, ht⟩ p3 hp3
      refine ⟨[], p3, t.map fun c => [c], rfl, rfl, ?_, ?_, ?_⟩
      · refine .inl (.inl ?_)
        rw [upd_same, List.map_map]
        rfl
      · rw [sum_ones]
        simp only [List.length_nil]; omega
      · rw [joinL_nil, flat_ones]
        exact main _ t (Same.up _ hp3) ht (by omega)
  intro H3 t s3 ht htl
  refine hc _ _ ?_
  and_intros
  refine ⟨sc, ns, _, _, rfl, s3.seq hS2, hl, by omega, by omega, by omega, fun r h0 h1 => ?_⟩
  and_intros
  refine ixABC_go (i := 1 + r) (by omega) (by omega) (addS_go (by simp only [List.length_cons, List.length_nil]; omega) (q _ _ (s2.trans s3) ⟨ht.app fun c hc => ?_, Na.app (Na.one (show 97 + (1 + r).toNat ≠ 97 by omega)) (by simp), by simp⟩ ?_))
  · rw [List.mem_singleton.mp hc]; omega
  · rw [List.length_append]; simp only [List.length_cons, List.length_nil]; omega
end L2
set_option Elab.async false
set_option linter.all false
set_option maxRecDepth 100000
set_option maxHeartbeats 4000000
namespace L2
open PySem PySem.Spec PyProof.Rows MM
theorem inV_strs (x : List Nat) (xs : List (List Nat)) : inV (.str (txt x)) (xs.map strV) = decide (x ∈ xs) := by
  unfold inV
  rw [List.any_map, Bool.eq_iff_iff, List.any_eq_true, decide_eq_true_eq]
  constructor
  · rintro ⟨y, hy, e⟩
    have : y = x := by simpa [eqV, strV, txt_inj] using e
    rw [← this]; exact hy
  · intro h
    exact ⟨x, h, by simp [eqV, strV]⟩
theorem flat_strs (xs : List (List Nat)) : (xs.map strV).all flatV = true := by
  rw [List.all_map, List.all_eq_true]
  intro x _
  rfl
theorem cutL_last {l : List Nat} {k : Nat} (hk : 0 < k) : cutL l (some (-(k : Int))) none = l.drop (l.length - k) := by
  have e : HT.sIx l.length 0 (some (-(k : Int))) = l.length - k := by
    unfold HT.sIx
    simp only []
    split <;> omega
  have e2 : HT.sIx l.length l.length none = l.length := rfl
  unfold cutL
  rw [e, e2, List.take_of_length_le]
  rw [List.length_drop]
  omega
theorem mark_drop {L : Nat} {m : List Nat} (h : Mark L m) {k : Nat} (hk : k < m.length) : Mark L (m.drop k) := by
  refine ⟨h.ls.sub fun c hc => List.mem_of_mem_drop hc, fun c hc => ?_, ?_⟩
  · rw [List.getLast?_drop, if_neg (by omega)] at hc
    exact h.na c hc
  · intro e
    have := congrArg List.length e
    rw [List.length_drop] at this
    simp at this
    omega
theorem lt_of_sorted {zs : List (List Nat)} (h : zs.Pairwise (· ≤ ·)) (n : zs.Nodup) : zs.Pairwise (· < ·) := by
  have := List.Pairwise.and h n
  refine this.imp fun {a b} hab => ?_
  by_cases z : a < b
  · exact z
  · exact absurd (List.le_antisymm hab.1 (List.not_lt.mp z)) hab.2
def spMarks (K : PySem.W.Frag) : Sp := fun vs H Q _ => ∃ (a : Addr) (ns : List Int) (b : Int) (L n : Nat), vs = [.ref a, .int b, .int L, .int n] ∧ SqL K H a (ns.map V.int) ∧ ns.length ≤ 63 ∧ 0 ≤ b ∧ b ≤ 10000 ∧ 2 ≤ L ∧ L ≤ 26 ∧ n ≤ 40 ∧
  ∀ H' p (ms : List (List Nat)), Same H H' → H' p = none → (∀ m ∈ ms, Mark L m ∧ m.length ≤ 200) → ms.length ≤ n → ms.Pairwise (· < ·) → Q (.ref p) (upd H' p (.lst (ms.map strV)))
def rdMarks (K : PySem.W.Frag) : TS :=
    tSeq (tAsg (tLst tNil) (gName 4))
      (tSeq (tFor (iRng1 (tCons (tVar 3) tNil)) (gName 5) (tSeq (tAsg (tCall (spMark41 K) [] E0 (tCons (tVar 0) (tCons (tOp rAddI (tVar 1) (tOp rMulI (tC (.int 97)) (tVar 5))) (tCons (tVar 2) tNil)))) (gName 6))
      (tSeq (tIfS (tAnd (tTest (tOp rGtI (tCB (rLenL K) (tCons (tVar 4) tNil)) (tC (.int 0)))) (tTest (tOp rEq (tCall (spDraw K) [] E0 (tCons (tVar 0) (tCons (tOp rAddI (tOp rAddI (tVar 1) (tOp rMulI (tC (.int 13)) (tVar 5))) (tC (.int 5))) (tCons (tC (.int 3)) tNil)))) (tC (.int 0))))) (tSeq (tAsg (tOp (rIxL K) (tVar 4) (tCall (spDraw K) [] E0 (tCons (tVar 0) (tCons (tOp rAddI (tOp rAddI (tVar 1) (tOp rMulI (tC (.int 13)) (tVar 5))) (tC (.int 6))) (tCons (tCB (rLenL K) (tCons (tVar 4) tNil)) tNil))))) (gName 7))
      (tAsg (tOp rAddS (tSl rSlS (tVar 7) tNoPart (tPart (tOp rAddI (tC (.int 1)) (tCall (spDraw K) [] E0 (tCons (tVar 0) (tCons (tOp rAddI (tOp rAddI (tVar 1) (tOp rMulI (tC (.int 13)) (tVar 5))) (tC (.int 7))) (tCons (tCB rLenS (tCons (tVar 7) tNil)) tNil))))))) (tSl rSlS (tVar 6) (tPart (tUn rNegI (tC (.int 2)))) tNoPart)) (gName 6))) (tNext))
      (tIfS (tTest (tOp (rIn K true) (tVar 6) (tVar 4))) (tDrop (tBM K "list" rAppend (tVar 4) (tCons (tVar 6) tNil))) (tNext)))))
      (tRet (tCB (rSortedS K) (tCons (tVar 4) tNil))))
def MarksInv (sc p : Addr) (b : Int) (L n : Nat) (H : Hp) : Nat → St → Hp → Prop := fun i σ H' => ∃ (ms : List (List Nat)) (v5 v6 v7 : Option V), Same H H' ∧ H' p = some (.lst (ms.map strV)) ∧ σ = [some (.ref sc), some (.int b), some (.int L), some (.int n), some (.ref p), v5, v6, v7] ∧ ms.Nodup ∧ (∀ m ∈ ms, Mark L m ∧ m.length ≤ 41 + 2 * i) ∧ ms.length ≤ i
theorem read_marks {K : PySem.W.Frag} {N : List Str} {vs : List V} {H : Hp} {Q : VK} {E : XK} (hN : N.length = 8) (h : spMarks K vs H Q E) : rdMarks K { nx := fun _ H' => Q .non H', rt := Q } (L2.start N vs) H := by
  obtain ⟨sc, ns, b, L, n, rfl, hS, hl, hb0, hb1, hL, hL26, hn, q⟩ := h
  unfold rdMarks L2.start
  rw [hN]
  refine seq_set fun c hc => ?_
  and_intros
  refine ⟨by decide, fun p hp => hc _ _ ?_⟩
  clear hc c
  refine seq_any fun c hc => ?_
  and_intros
  refine for_r1 (j := n) (fun Q h => ⟨_, rfl, h⟩) (by omega) (by omega) (MarksInv sc p b L n H) ⟨[], _, _, _, Same.up _ hp, upd_same, rfl, List.nodup_nil, fun m h => (nomatch h), Nat.le_refl _⟩ ?_ ?_
  · rintro i σ H1 hi ⟨ms, v5, v6, v7, s1, hM, rfl, nd, hm, hml⟩
    refine seq_set fun c hc => ?_
    and_intros
    refine ⟨mulB_l (by decide) (by decide), sc, ns, _, L, rfl, s1.seq hS, hl, by omega, by omega, hL, hL26, fun H2 mk s2 Mk zk => hc _ _ ?_⟩
    clear hc c
    have hM2 := s2 _ _ hM
    have s12 := s1.trans s2
    have hS2 := s12.seq hS
    refine seq_any fun c hc => ?_
    suffices main : ∀ (mk : List Nat) (v7 : Option V), Mark L mk → mk.length ≤ 41 + 2 * (i + 1) → c [some (.ref sc), some (.int b), some (.int L), some (.int n), some (.ref p), some (.int i), some (.str (txt mk)), v7] H2 by
      and_intros
      refine lenL_go (SqL.of hM2) ⟨_, rfl, ?_⟩
      rw [List.length_map]
      by_cases h0 : (0 : Int) < (ms.length : Int)
      · rw [if_pos h0]
        refine ⟨mulB_l (by decide) (by decide), sc, ns, _, _, rfl, hS2, hl, by omega, by omega, by decide, fun r hr0 hr1 => ⟨rfl, ?_⟩⟩
        by_cases e : V.int r = V.int 0
        · rw [if_pos e]
          refine ⟨mulB_l (by decide) (by decide), lenL_go (SqL.of hM2) ?_⟩
          rw [List.length_map]
          refine ⟨sc, ns, _, _, rfl, hS2, hl, by omega, by omega, h0, fun r2 hr20 hr21 => ?_⟩
          obtain ⟨ot, hot⟩ := some_at (l := ms) (i := r2.toNat) (by omega)
          have ho := hm ot (List.mem_of_getElem? hot)
          refine ixL_go (v := strV ot) (SqL.of hM2) hr20 (by rw [List.getElem?_map, hot]; rfl) ?_
          simp only [strV, tCompSet,tRaise,tIsi,tSeq,tAsg,gName,tOp,tUn,tVar,tC,tTest,tB,tIf,tIfS,tAnd,tOr,tNot,tAndV,tOrV,tNotV,tRet,tRetN,tNext,tDrop,tCB,tCons,tNil,tBM,tBM0,tCall,tLst,tTup,tSl,tPart,tNoPart,tIsN,tNotN,tYes,tBreak,tCont,rI0,rI,rU,rEq,rNe,L2.start,compSt,List.map_cons,List.map_nil,List.length_cons,List.length_nil,List.replicate_succ,List.replicate_zero,List.cons_append,List.nil_append,List.append_nil,List.getElem?_cons_zero,List.getElem?_cons_succ,List.set_cons_zero,List.set_cons_succ,Option.some.injEq,Option.join_some,V.int.injEq,V.str.injEq,V.bl.injEq,V.ref.injEq,txt_inj,exists_eq_left',exists_eq_left,exists_and_left,and_true,true_and,decide_eq_true_eq,reduceCtorEq,decide_false,decide_true,Bool.not_false,Bool.not_true,if_true,if_false,Bool.false_eq_true,Nat.reduceAdd,Nat.reduceSub,Bool.not_eq_true',decide_eq_false_iff_not,not_true_eq_false,not_false_eq_true]
          have hpo : 0 < ot.length := List.length_pos_iff.mpr ho.1.ne
          have hpm : 0 < mk.length := List.length_pos_iff.mpr Mk.ne
          refine ⟨mulB_l (by decide) (by decide), lenS_go (by omega) ?_⟩
          refine ⟨sc, ns, _, _, rfl, hS2, hl, by omega, by omega, by omega, fun r3 hr30 hr31 => ?_⟩
          and_intros
          refine slTo_go (by omega) (by omega) (by omega) (slS_go (by omega) ?_)
          rw [show (-2 : Int) = -((2 : Nat) : Int) from rfl, cutL_last (by decide)]
          have l1 : (ot.take (1 + r3).toNat).length ≤ ot.length := by rw [List.length_take]; omega
          have l2 : (mk.drop (mk.length - 2)).length ≤ 2 := by rw [List.length_drop]; omega
          refine addS_go (by omega) (main _ _ ?_ (by rw [List.length_append]; omega))
          have Md := mark_drop Mk (k := mk.length - 2) (by omega)
          exact ⟨(ho.1.ls.sub fun c hc => List.mem_of_mem_take hc).app Md.ls, Na.app Md.na Md.ne, by simp [Md.ne]⟩
        · rw [if_neg e]
          exact main mk _ Mk (by omega)
      · rw [if_neg h0]
        exact main mk _ Mk (by omega)
    intro mk v7 Mk zk
    refine hc _ _ ?_
    and_intros
    refine ⟨p, _, rfl, .inl (SqL.of hM2), rfl, flat_strs _, ?_⟩
    rw [inV_strs]
    and_intros
    by_cases hin : mk ∈ ms
    · rw [if_neg (fun z => z hin)]
      exact ⟨ms, _, _, _, s12, hM2, rfl, nd, fun m h => ⟨(hm m h).1, by have := (hm m h).2; omega⟩, by omega⟩
    · rw [if_pos hin]
      refine ⟨.inl ⟨rfl, _, SqL.of hM2⟩, p, _, _, rfl, rfl, hM2, by rw [List.length_map, sizeLine_eq]; omega, ?_⟩
      refine ⟨ms ++ [mk], _, _, _, s12.set hp, by rw [upd_same, List.map_append]; rfl, rfl, ?_, fun m h => ?_, by rw [List.length_append]; simp; omega⟩
      · rw [List.nodup_append]
        refine ⟨nd, by simp, fun a ha b hb e => ?_⟩
        rw [List.mem_singleton.mp hb] at e
        subst e
        exact hin ha
      · rcases List.mem_append.mp h with h | h
        · exact ⟨(hm m h).1, by have := (hm m h).2; omega⟩
        · rw [List.mem_singleton.mp h]; exact ⟨Mk, zk⟩
  · rintro σ H1 ⟨ms, v5, v6, v7, s1, hM, rfl, nd, hm, hml⟩
    refine hc _ _ ?_
    and_intros
    rw [Int.toNat_natCast] at hm hml
    refine ⟨p, ms, rfl, SqL.of hM, by omega, fun r zs hr hpm hle => ?_⟩
    exact q _ r zs s1 hr (fun m h => ⟨(hm m (hpm.mem_iff.mp h)).1, by have := (hm m (hpm.mem_iff.mp h)).2; omega⟩) (by rw [hpm.length_eq]; exact hml) (lt_of_sorted hle (hpm.nodup_iff.mpr nd))
end L2
set_option Elab.async false
set_option linter.all false
set_option maxRecDepth 100000
set_option maxHeartbeats 4000000
namespace L2
open PySem PySem.Spec PyProof.Rows MM
def Keeps (F : List Addr) (H H' : Hp) : Prop := ∀ b o, H b = some o → b ∉ F → H' b = some o
theorem Same.keeps {H H' : Hp} (s : Same H H') (F : List Addr) : Keeps F H H' := fun b o e _ => s b o e
theorem Keeps.trans {F : List Addr} {H H1 H2 : Hp} (a : Keeps F H H1) (b : Keeps F H1 H2) : Keeps F H H2 := fun x o e n => b x o (a x o e n) n
theorem Keeps.upd {F : List Addr} {H H' : Hp} {p : Addr} {o : HO} (a : Keeps F H H') (h : p ∈ F ∨ H' p = none) : Keeps F H (upd H' p o) := fun x q e n => by
  have := a x q e n
  rw [upd_ne (fun z => by subst z; rcases h with h | h
                          · exact n h
                          · rw [this] at h; cases h)]
  exact this
def shelfF (L : Nat) (pm pt : Addr) : List (Str × V) := [("letters", .int L), ("mark_row", .ref pm), ("thing_row", .ref pt)]
structure Shf (C : Addr) (H : Hp) (x dx pm pt : Addr) (L : Nat) (ms ts : List (List Nat)) : Prop where
  ins : H x = some (.ins C dx (shelfF L pm pt))
  own : H dx = some (.own x)
  mar : H pm = some (.lst (ms.map strV))
  thi : H pt = some (.lst (ts.map strV))
  ne : pm ≠ pt
theorem Shf.same {C : Addr} {H H' : Hp} {x dx pm pt : Addr} {L : Nat} {ms ts : List (List Nat)} (S : Shf C H x dx pm pt L ms ts) (s : Same H H') : Shf C H' x dx pm pt L ms ts :=
  ⟨s _ _ S.ins, s _ _ S.own, s _ _ S.mar, s _ _ S.thi, S.ne⟩
theorem Shf.keep {C : Addr} {H H' : Hp} {x dx pm pt : Addr} {L : Nat} {ms ts : List (List Nat)} {F : List Addr} (S : Shf C H x dx pm pt L ms ts) (k : Keeps F H H') (h1 : x ∉ F) (h2 : dx ∉ F) (h3 : pm ∉ F) (h4 : pt ∉ F) : Shf C H' x dx pm pt L ms ts :=
  ⟨k _ _ S.ins h1, k _ _ S.own h2, k _ _ S.mar h3, k _ _ S.thi h4, S.ne⟩
structure Row (L : Nat) (ms ts : List (List Nat)) : Prop where
  l2 : 2 ≤ L
  l26 : L ≤ 26
  len : ms.length = ts.length
  few : ts.length ≤ 300
  mar : ∀ m ∈ ms, Mark L m ∧ m.length ≤ 1000
  up : ms.Pairwise (· < ·)
def SIGNS : List Nat := [97, 98, 99, 100, 101, 102, 103, 104, 105, 106, 107, 108, 109, 110, 111, 112, 113, 114, 115, 116, 117, 118, 119, 120, 121, 122, 48, 49, 50, 51, 52, 53, 54, 55, 56, 57]
def Thing (t : List Nat) : Prop := t ≠ [] ∧ t.length ≤ 12 ∧ ∀ c ∈ t, c ∈ SIGNS
end L2
set_option Elab.async false
set_option linter.all false
set_option maxRecDepth 100000
set_option maxHeartbeats 4000000
namespace L2
open PySem PySem.Spec PyProof.Rows MM
section
variable {K : PySem.W.Frag} {C : Addr} {H : Hp} {x dx pm pt : Addr} {L : Nat} {ms ts : List (List Nat)} {σ : St} {i : Nat} {Q : VK}
end
def aheadO (ms : List (List Nat)) (i : Nat) : Option (List Nat) := if i = 0 then none else ms[i - 1]?
end L2
set_option Elab.async false
set_option linter.all false
set_option maxRecDepth 100000
set_option maxHeartbeats 4000000
namespace L2
open PySem PySem.Spec PyProof.Rows MM
theorem cutV_to {xs : List V} {i : Nat} (h : i ≤ xs.length) : cutV xs none (some (i : Int)) = xs.take i := by
  unfold cutV
  rw [HT.sIx_nat, HT.sIx_none, List.drop_zero, Nat.sub_zero, Nat.min_eq_left h]
theorem cutV_from {xs : List V} {i : Nat} (h : i ≤ xs.length) : cutV xs (some (i : Int)) none = xs.drop i := by
  unfold cutV
  rw [HT.sIx_nat, HT.sIx_none, Nat.min_eq_left h, List.take_of_length_le]
  rw [List.length_drop]
  exact Nat.le_refl _
def setIn (ms : List (List Nat)) (i : Nat) (zs : List (List Nat)) : List (List Nat) := ms.take i ++ zs ++ ms.drop i
structure IsLong (ms : List (List Nat)) (z : Nat) : Prop where
  none : ms = [] → z = 0
  one : ms ≠ [] → ∃ m ∈ ms, m.length = z
  all : ∀ m ∈ ms, m.length ≤ z
theorem IsLong.eq {ms : List (List Nat)} {a b : Nat} (A : IsLong ms a) (B : IsLong ms b) : a = b := by
  by_cases h : ms = []
  · rw [A.none h, B.none h]
  · obtain ⟨m, h1, e1⟩ := A.one h
    obtain ⟨n, h2, e2⟩ := B.one h
    have := A.all n h2
    have := B.all m h1
    omega
theorem hand1 {L : Nat} (h2 : 2 ≤ L) (h26 : L ≤ 26) : Hands L 1 0 := ⟨h2, h26, by decide, by omega⟩
theorem Row.near {L : Nat} {ms ts : List (List Nat)} (R : Row L ms ts) (i : Nat) : MarksOk L (aheadO ms i) ms[i]? ∧ OkLH (aheadO ms i) ms[i]? := by
  refine ⟨⟨fun m e => ?_, fun m e => R.mar m (List.mem_of_getElem? e)⟩, fun l h e1 e2 => ?_⟩
  · unfold aheadO at e
    split at e
    · cases e
    · exact R.mar m (List.mem_of_getElem? e)
  · unfold aheadO at e1
    split at e1
    · cases e1
    · obtain ⟨h1, e1⟩ := List.getElem?_eq_some_iff.mp e1
      obtain ⟨h2, e2⟩ := List.getElem?_eq_some_iff.mp e2
      have := List.pairwise_iff_getElem.mp R.up (i - 1) i h1 h2 (by omega)
      rwa [e1, e2] at this
end L2
set_option Elab.async false
set_option linter.all false
set_option maxRecDepth 100000
set_option maxHeartbeats 4000000
namespace L2
open PySem PySem.Spec PyProof.Rows MM
abbrev loN (L : Nat) (lo : Option (List Nat)) (n : Nat) : Nat := valO L lo n + 1
abbrev hiN (L : Nat) (hi : Option (List Nat)) (n : Nat) : Nat := aheadN hi (highO L hi n) n
structure LeastI (L : Nat) (lo hi : Option (List Nat)) (n : Nat) : Prop where
  pos : 1 ≤ n
  some_ : loN L lo n < hiN L hi n
  less : ∀ m, 1 ≤ m → m < n → hiN L hi m ≤ loN L lo m
theorem own_all {L w : Nat} (hL : 0 < L) : ow L (endsL L 1 0) w = true ↔ w % L ≠ 0 := by
  rw [own_iff hL]
  constructor
  · intro h; omega
  · intro h; exact ⟨by omega, Nat.mod_one _⟩
theorem figO_lt {L : Nat} (hL : 0 < L) {o : Option (List Nat)} {n : Nat} (h : ∀ m, o = some m → Ls L m) : figO o n < L := by
  cases o with
  | none => exact hL
  | some m =>
    show fig m n < L
    unfold fig
    cases e : m[n]? with
    | none => exact hL
    | some c => have := h m rfl c (List.mem_of_getElem? e); simp only []; omega
theorem LeastI.own {L : Nat} {lo hi : Option (List Nat)} {n : Nat} (A : LeastI L lo hi n) (hL : 2 ≤ L) (M : MarksOk L lo hi) {w : Nat} (h1 : loN L lo n ≤ w) (h2 : w < hiN L hi n) : w % L ≠ 0 := by
  have hL0 : 0 < L := by omega
  intro h0
  have hle := ahead_le n hL0 M
  obtain ⟨n', rfl⟩ : ∃ n', n = n' + 1 := ⟨n - 1, by have := A.pos; omega⟩
  by_cases hn : n' = 0
  · subst hn
    have hle : hiN L hi (0 + 1) ≤ L := by
      have e : L ^ (0 + 1) = L := by rw [Nat.pow_succ, Nat.pow_zero, Nat.one_mul]
      rw [e] at hle
      exact hle
    have g1 : 1 ≤ w := Nat.le_trans (Nat.le_add_left 1 _) h1
    have g2 : w < L := Nat.lt_of_lt_of_le h2 hle
    rw [Nat.mod_eq_of_lt g2] at h0
    omega
  · have hA := A.less n' (by omega) (by omega)
    obtain ⟨v, hv⟩ : ∃ v, w = v * L := ⟨w / L, by have := Nat.div_add_mod w L; rw [h0, Nat.add_zero, Nat.mul_comm] at this; exact this.symm⟩
    subst hv
    have l1 : loN L lo n' ≤ v := by
      show valO L lo n' + 1 ≤ v
      have h1 : valO L lo (n' + 1) + 1 ≤ v * L := h1
      rw [valO_succ] at h1
      have : valO L lo n' * L < v * L := by omega
      have := Nat.lt_of_mul_lt_mul_right this
      omega
    have l2 : v < hiN L hi n' := by
      have fl := figO_lt (n := n') hL0 (o := hi) fun m e => (M.mhi m e).1.ls
      cases hi with
      | none =>
        show v < L ^ n'
        have h2 : v * L < L ^ (n' + 1) := h2
        rw [Nat.pow_succ] at h2
        exact Nat.lt_of_mul_lt_mul_right h2
      | some h =>
        have e1 : hiN L (some h) (n' + 1) = if n' + 1 < h.length then val L h (n' + 1) + 1 else val L h (n' + 1) := rfl
        have e2 : hiN L (some h) n' = if n' < h.length then val L h n' + 1 else val L h n' := rfl
        rw [e1, val_succ] at h2
        rw [e2]
        have fl : fig h n' < L := fl
        by_cases c1 : n' < h.length
        · rw [if_pos c1]
          have : v * L < (val L h n' + 1) * L := by
            rw [Nat.add_mul, Nat.one_mul]
            split at h2 <;> omega
          exact Nat.lt_of_mul_lt_mul_right this
        · rw [if_neg c1]
          rw [if_neg (by omega)] at h2
          have e3 : fig h n' = 0 := by unfold fig; rw [List.getElem?_eq_none (by omega)]
          rw [e3, Nat.add_zero] at h2
          exact Nat.lt_of_mul_lt_mul_right h2
    omega
theorem LeastI.ob {L : Nat} {lo hi : Option (List Nat)} {n : Nat} (A : LeastI L lo hi n) (hL : 2 ≤ L) (M : MarksOk L lo hi) : ∀ k, loN L lo n + k ≤ hiN L hi n → MM.ob L (endsL L 1 0) (loN L lo n + k) = MM.ob L (endsL L 1 0) (loN L lo n) + k
  | 0, _ => rfl
  | k + 1, h => by
    have hL0 : 0 < L := by omega
    have E := ends_ok (K := L) (h := 1) (j := 0) (by decide) (by omega)
    rw [show loN L lo n + (k + 1) = loN L lo n + k + 1 by omega, ob_succ hL0 E, A.ob hL M k (by omega), if_pos ((own_all hL0).mpr (A.own hL M (Nat.le_add_right _ _) (by omega)))]
    omega
theorem LeastI.least {L : Nat} {lo hi : Option (List Nat)} {n : Nat} (A : LeastI L lo hi n) (hL : 2 ≤ L) (M : MarksOk L lo hi) (ok : OkLH lo hi) : roomI L (endsL L 1 0) lo hi n = ((hiN L hi n - loN L lo n : Nat) : Int) ∧ ∀ m, LeastB true L (endsL L 1 0) lo hi 1 m → m = n := by
  have hL0 : 0 < L := by omega
  have E := ends_ok (K := L) (h := 1) (j := 0) (by decide) (by omega)
  have hlt := A.some_
  have e := A.ob hL M (hiN L hi n - loN L lo n) (by omega)
  rw [show loN L lo n + (hiN L hi n - loN L lo n) = hiN L hi n by omega] at e
  have r : roomI L (endsL L 1 0) lo hi n = ((hiN L hi n - loN L lo n : Nat) : Int) := by
    show ((MM.ob L (endsL L 1 0) (hiN L hi n) : Nat) : Int) - ((MM.ob L (endsL L 1 0) (loN L lo n) : Nat) : Int) = _
    rw [e]
    omega
  refine ⟨r, fun m B => ?_⟩
  have rm : ∀ k, 1 ≤ k → k < n → roomI L (endsL L 1 0) lo hi k ≤ 0 := fun k h1 h2 => by
    have := ob_mono hL0 E (A.less k h1 h2)
    show ((MM.ob L (endsL L 1 0) (hiN L hi k) : Nat) : Int) - ((MM.ob L (endsL L 1 0) (loN L lo k) : Nat) : Int) ≤ 0
    omega
  rcases Nat.lt_trichotomy m n with h | h | h
  · have b := B.room
    rw [roomB_true] at b
    have := rm m B.pos h
    omega
  · exact h
  · have b := B.less n A.pos h
    rw [roomB_true, r] at b
    omega
def numI (L : Nat) (lo hi : Option (List Nat)) (n : Nat) : Nat := match lo, hi with
  | some _, none => loN L lo n
  | none, some _ => hiN L hi n - 1
  | _, _ => (loN L lo n + (hiN L hi n - 1)) / 2
theorem LeastI.found {L : Nat} {lo hi : Option (List Nat)} {n : Nat} (A : LeastI L lo hi n) (hL : 2 ≤ L) (M : MarksOk L lo hi) (ok : OkLH lo hi) {n2 w : Nat} {m : List Nat} (F : Found L (endsL L 1 0) lo hi n2 w m) : m = MM.mk L (numI L lo hi n) n := by
  have hL0 : 0 < L := by omega
  have E := ends_ok (K := L) (h := 1) (j := 0) (by decide) (by omega)
  obtain ⟨r, one⟩ := A.least hL M ok
  have e := one n2 F.least
  subst e
  have hlt := A.some_
  have hat := F.at_
  rw [r] at hat
  obtain ⟨k, hk, hk2⟩ : ∃ k, toldI lo hi ((hiN L hi n2 - loN L lo n2 : Nat) : Int) = ((k : Nat) : Int) ∧ numI L lo hi n2 = loN L lo n2 + k := by
    cases lo with
    | none =>
      cases hi with
      | none => exact ⟨(hiN L none n2 - loN L none n2 - 1) / 2, by simp only [toldI]; omega, by simp only [numI]; omega⟩
      | some h => exact ⟨hiN L (some h) n2 - loN L none n2 - 1, by simp only [toldI]; omega, by simp only [numI]; omega⟩
    | some l =>
      cases hi with
      | none => exact ⟨0, rfl, rfl⟩
      | some h => exact ⟨(hiN L (some h) n2 - loN L (some l) n2 - 1) / 2, by simp only [toldI]; omega, by simp only [numI]; omega⟩
  have kin : loN L lo n2 + k < hiN L hi n2 := by
    have := told_in lo hi (z := ((hiN L hi n2 - loN L lo n2 : Nat) : Int)) (by omega)
    rw [hk] at this
    omega
  have ow1 := (own_all hL0).mpr (A.own hL M (Nat.le_add_right (loN L lo n2) k) kin)
  have ew : w = loN L lo n2 + k := by
    rw [← nth_ob hL0 E F.own, ← nth_ob hL0 E ow1]
    congr 1
    rw [A.ob hL M k (by omega)]
    rw [hk] at hat
    show MM.ob L (endsL L 1 0) w = MM.ob L (endsL L 1 0) (loN L lo n2) + k
    have hat : (MM.ob L (endsL L 1 0) w : Int) = (MM.ob L (endsL L 1 0) (loN L lo n2) : Int) + (k : Int) := hat
    omega
  rw [F.eq, hk2, ← ew]
  obtain ⟨n', rfl⟩ : ∃ n', n2 = n' + 1 := ⟨n2 - 1, by have := A.pos; omega⟩
  rw [MM.mk_low hL0 ((own_all hL0).mp F.own)]
end L2
set_option Elab.async false
set_option linter.all false
set_option maxRecDepth 100000
set_option maxHeartbeats 4000000
namespace L2
open PySem PySem.Spec PyProof.Rows MM
end L2
set_option Elab.async false
set_option linter.all false
set_option maxRecDepth 100000
set_option maxHeartbeats 4000000
namespace L2
open PySem PySem.Spec PyProof.Rows MM
theorem Found.all {L n w : Nat} {lo hi : Option (List Nat)} {m : List Nat} (F : Found L (endsL L 1 0) lo hi n w m) (hL : 2 ≤ L) (M : MarksOk L lo hi) (ok : OkLH lo hi) :
    Mark L m ∧ m.length ≤ 1 + max (lenO lo) (lenO hi) ∧ (∀ l, lo = some l → l < m) ∧ ∀ u, hi = some u → m < u := by
  have hL0 : 0 < L := by omega
  have hw : w < L ^ n := Nat.lt_of_lt_of_le F.lt (ahead_le n hL0 M)
  have hm := low_length L w n
  rw [← F.eq] at hm
  have h0 := (own_all hL0).mp F.own
  have hn1 := F.least.pos
  have hnl := F.least.len1 hL (ends_ok (K := L) (h := 1) (j := 0) (by decide) (by omega)) M ok
  obtain ⟨n', rfl⟩ : ∃ n', n = n' + 1 := ⟨n - 1, by omega⟩
  refine ⟨?_, by omega, fun l e => ?_, fun u e => ?_⟩
  · refine ⟨by rw [F.eq]; exact low_ls hL0 _ _, fun c hc => ?_, fun z => by rw [z] at hm; simp at hm⟩
    rw [F.eq, low_last hL0] at hc
    have := Option.some.inj hc
    omega
  · rw [F.eq, low_iff hL0 hw h0 (M.mlo l e).1.ls]
    have := F.ge
    rw [e] at this
    exact this
  · rw [F.eq, high_iff hL0 hw (M.mhi u e).1.ls (M.mhi u e).1.na]
    have := F.lt
    rw [e] at this
    exact this
theorem lt_tr {a b c : List Nat} (h1 : a < b) (h2 : b < c) : a < c := List.lt_trans h1 h2
theorem mem_setIn {ms zs : List (List Nat)} {i : Nat} {m : List Nat} (h : m ∈ setIn ms i zs) : m ∈ ms ∨ m ∈ zs := by
  unfold setIn at h
  rcases List.mem_append.mp h with h | h
  · rcases List.mem_append.mp h with h | h
    · exact .inl (List.mem_of_mem_take h)
    · exact .inr h
  · exact .inl (List.mem_of_mem_drop h)
theorem len_setIn {ms zs : List (List Nat)} {i : Nat} (h : i ≤ ms.length) : (setIn ms i zs).length = ms.length + zs.length := by
  unfold setIn
  rw [List.length_append, List.length_append, List.length_take, List.length_drop]
  omega
theorem Row.puts {L i : Nat} {ms ts zs us : List (List Nat)} (R : Row L ms ts) (hi : i ≤ ts.length) (hl : zs.length = us.length) (hf : ts.length + us.length ≤ 300) (hz : ∀ z ∈ zs, Mark L z ∧ z.length ≤ 1000) (hp : zs.Pairwise (· < ·))
    (h1 : ∀ z ∈ zs, ∀ l, aheadO ms i = some l → l < z) (h2 : ∀ z ∈ zs, ∀ u, ms[i]? = some u → z < u) : Row L (setIn ms i zs) (setIn ts i us) := by
  have hlen := R.len
  refine ⟨R.l2, R.l26, by rw [len_setIn (by omega), len_setIn hi, hlen, hl], by rw [len_setIn hi]; exact hf, fun m hm => ?_, ?_⟩
  · rcases mem_setIn hm with h | h
    · exact R.mar m h
    · exact hz m h
  · unfold setIn
    rw [List.append_assoc, List.pairwise_append]
    refine ⟨R.up.sublist (List.take_sublist _ _), List.pairwise_append.mpr ⟨hp, R.up.sublist (List.drop_sublist _ _), fun a ha b hb => ?_⟩, fun a ha b hb => ?_⟩
    · obtain ⟨j, hj, e⟩ := List.getElem_of_mem hb
      rw [List.length_drop] at hj
      rw [List.getElem_drop] at e
      have hz := h2 a ha ms[i] (List.getElem?_eq_getElem (by omega))
      by_cases z : j = 0
      · subst z
        rw [← e]
        exact hz
      · have := List.pairwise_iff_getElem.mp R.up i (i + j) (by omega) (by omega) (by omega)
        rw [e] at this
        exact lt_tr hz this
    · rcases List.mem_append.mp hb with hb | hb
      · obtain ⟨j, hj, e⟩ := List.getElem_of_mem ha
        rw [List.length_take] at hj
        rw [List.getElem_take] at e
        have hz := h1 b hb ms[i - 1] (by unfold aheadO; rw [if_neg (by omega)]; exact List.getElem?_eq_getElem (by omega))
        by_cases z : j = i - 1
        · subst z
          rw [← e]
          exact hz
        · have := List.pairwise_iff_getElem.mp R.up j (i - 1) (by omega) (by omega) (by omega)
          rw [e] at this
          exact lt_tr this hz
      · have := R.up
        rw [← List.take_append_drop i ms, List.pairwise_append] at this
        exact this.2.2 a ha b hb
theorem Row.take {L i : Nat} {ms ts : List (List Nat)} (R : Row L ms ts) (hi : i < ts.length) : Row L (ms.eraseIdx i) (ts.eraseIdx i) := by
  have hlen := R.len
  have hf := R.few
  refine ⟨R.l2, R.l26, ?_, ?_, fun m hm => R.mar m (List.mem_of_mem_eraseIdx hm), R.up.sublist (List.eraseIdx_sublist _ _)⟩
  · rw [List.length_eraseIdx_of_lt (by omega), List.length_eraseIdx_of_lt hi, hlen]
  · rw [List.length_eraseIdx_of_lt hi]; omega
structure Good (L : Nat) (ms ts : List (List Nat)) (k : Nat) : Prop where
  row : Row L ms ts
  th : ∀ t ∈ ts, Thing t
  few : ts.length ≤ k
  len : ∀ m ∈ ms, m.length ≤ k
theorem Good.more {L k : Nat} {ms ts : List (List Nat)} (G : Good L ms ts k) : Good L ms ts (k + 1) := ⟨G.row, G.th, Nat.le_succ_of_le G.few, fun m h => Nat.le_succ_of_le (G.len m h)⟩
theorem Good.take {L k i : Nat} {ms ts : List (List Nat)} (G : Good L ms ts k) (hi : i < ts.length) : Good L (ms.eraseIdx i) (ts.eraseIdx i) (k + 1) :=
  ⟨G.row.take hi, fun t h => G.th t (List.mem_of_mem_eraseIdx h), by rw [List.length_eraseIdx_of_lt hi]; have := G.few; omega, fun m h => Nat.le_succ_of_le (G.len m (List.mem_of_mem_eraseIdx h))⟩
theorem Good.lens {L k : Nat} {ms ts : List (List Nat)} (G : Good L ms ts k) (i : Nat) : lenO (aheadO ms i) ≤ k ∧ lenO ms[i]? ≤ k := by
  have h : ∀ o : Option (List Nat), (∀ m, o = some m → m ∈ ms) → lenO o ≤ k := fun o h => by
    cases o with
    | none => exact Nat.zero_le _
    | some m => exact G.len m (h m rfl)
  refine ⟨h _ fun m e => ?_, h _ fun m e => List.mem_of_getElem? e⟩
  unfold aheadO at e
  split at e
  · cases e
  · exact List.mem_of_getElem? e
theorem Good.put {L k i n w : Nat} {ms ts : List (List Nat)} {m t : List Nat} (G : Good L ms ts k) (hk : k ≤ 298) (hi : i ≤ ts.length) (F : Found L (endsL L 1 0) (aheadO ms i) ms[i]? n w m) (ht : Thing t) : Good L (setIn ms i [m]) (setIn ts i [t]) (k + 1) := by
  obtain ⟨mo, ok⟩ := G.row.near i
  obtain ⟨a1, a2, a3, a4⟩ := F.all G.row.l2 mo ok
  obtain ⟨b1, b2⟩ := G.lens i
  have hf := G.few
  refine ⟨G.row.puts hi rfl (by simp only [List.length_cons, List.length_nil]; omega) ?_ (List.pairwise_singleton _ _) ?_ ?_, fun z hz => ?_, by rw [len_setIn hi]; simp only [List.length_cons, List.length_nil]; omega, fun z hz => ?_⟩
  · intro z hz; rw [List.mem_singleton.mp hz]; exact ⟨a1, by omega⟩
  · intro z hz; rw [List.mem_singleton.mp hz]; exact a3
  · intro z hz; rw [List.mem_singleton.mp hz]; exact a4
  · rcases mem_setIn hz with h | h
    · exact G.th z h
    · rw [List.mem_singleton.mp h]; exact ht
  · rcases mem_setIn hz with h | h
    · exact Nat.le_succ_of_le (G.len z h)
    · rw [List.mem_singleton.mp h]; omega
inductive Plc where
  | q1 : Plc
  | q2 : Plc
  | q3 : Plc
  | q4 : Plc
  | q5 : Plc
  | t (b : Bool) : Plc
  | m (b : Bool) : Plc
  | pm (b : Bool) : Plc
  | pt (b : Bool) : Plc
  | x (b : Bool) : Plc
  | d (b : Bool) : Plc
structure Sta where
  L : Bool → Nat
  l : Bool → Nat
  ms : Bool → List (List Nat)
  ts : Bool → List (List Nat)
def hof (C : Addr) (ad : Plc → Addr) (S : Sta) : Plc → HO
  | .q1 => .lst [.int (S.L false), .int (S.L true)]
  | .q2 => .lst [.ref (ad (.x false)), .ref (ad (.x true))]
  | .q3 => .lst [.ref (ad (.t false)), .ref (ad (.t true))]
  | .q4 => .lst [.ref (ad (.m false)), .ref (ad (.m true))]
  | .q5 => .lst [.int (S.l false), .int (S.l true)]
  | .t b => .lst ((S.ts b).map strV)
  | .m b => .lst ((S.ms b).map strV)
  | .pm b => .lst ((S.ms b).map strV)
  | .pt b => .lst ((S.ts b).map strV)
  | .x b => .ins C (ad (.d b)) (shelfF (S.L b) (ad (.pm b)) (ad (.pt b)))
  | .d b => .own (ad (.x b))
structure Ats (C : Addr) (H0 : Hp) (ad : Plc → Addr) (S : Sta) (H : Hp) : Prop where
  inj : ∀ l l', ad l = ad l' → l = l'
  val : ∀ l, H (ad l) = some (hof C ad S l)
  fre : ∀ l, H0 (ad l) = none
  sm : Same H0 H
theorem Ats.same {C : Addr} {H0 H H' : Hp} {ad : Plc → Addr} {S : Sta} (A : Ats C H0 ad S H) (s : Same H H') : Ats C H0 ad S H' := ⟨A.inj, fun l => s _ _ (A.val l), A.fre, A.sm.trans s⟩
theorem Ats.shf {C : Addr} {H0 H : Hp} {ad : Plc → Addr} {S : Sta} (A : Ats C H0 ad S H) (b : Bool) : Shf C H (ad (.x b)) (ad (.d b)) (ad (.pm b)) (ad (.pt b)) (S.L b) (S.ms b) (S.ts b) :=
  ⟨A.val (.x b), A.val (.d b), A.val (.pm b), A.val (.pt b), fun z => nomatch A.inj _ _ z⟩
def Sta.set (S : Sta) (b : Bool) (ms ts : List (List Nat)) (l : Nat) : Sta := ⟨S.L, fun c => if c = b then l else S.l c, fun c => if c = b then ms else S.ms c, fun c => if c = b then ts else S.ts c⟩
theorem same_keep {H0 H H' : Hp} {F : List Addr} (s : Same H0 H) (k : Keeps F H H') (h : ∀ a ∈ F, H0 a = none) : Same H0 H' := fun b o e => k b o (s b o e) (fun z => by rw [h b z] at e; cases e)
theorem Ats.take {C : Addr} {H0 H H2 : Hp} {ad : Plc → Addr} {S : Sta} (A : Ats C H0 ad S H) (b : Bool) (i : Nat)
    (kp : Keeps [ad (.pm b), ad (.pt b)] (upd H (ad (.m b)) (.lst (((S.ms b).eraseIdx i).map strV))) H2) (S2 : Shf C H2 (ad (.x b)) (ad (.d b)) (ad (.pm b)) (ad (.pt b)) (S.L b) ((S.ms b).eraseIdx i) ((S.ts b).eraseIdx i)) :
    Ats C H0 ad (S.set b ((S.ms b).eraseIdx i) ((S.ts b).eraseIdx i) (S.l b)) (upd H2 (ad (.t b)) (.lst (((S.ts b).eraseIdx i).map strV))) := by
  have ne : ∀ {l l' : Plc}, l ≠ l' → ad l ≠ ad l' := fun h z => h (A.inj _ _ z)
  have nin : ∀ {l : Plc}, l ≠ .pm b → l ≠ .pt b → ad l ∉ [ad (.pm b), ad (.pt b)] := fun h1 h2 z => by
    rcases List.mem_cons.mp z with z | z
    · exact ne h1 z
    · exact ne h2 (List.mem_singleton.mp z)
  have h3 : ∀ l, l ≠ .m b → l ≠ .pm b → l ≠ .pt b → l ≠ .t b → upd H2 (ad (.t b)) (.lst (((S.ts b).eraseIdx i).map strV)) (ad l) = some (hof C ad S l) := fun l n1 n2 n3 n4 => by
    rw [upd_ne (ne n4)]
    refine kp _ _ ?_ (nin n2 n3)
    rw [upd_ne (ne n1)]
    exact A.val l
  have g5 : hof C ad (S.set b ((S.ms b).eraseIdx i) ((S.ts b).eraseIdx i) (S.l b)) .q5 = hof C ad S .q5 := by
    cases b <;> rfl
  refine ⟨A.inj, fun l => ?_, A.fre, ?_⟩
  · cases l with
    | q1 => exact h3 _ (fun z => nomatch z) (fun z => nomatch z) (fun z => nomatch z) (fun z => nomatch z)
    | q2 => exact h3 _ (fun z => nomatch z) (fun z => nomatch z) (fun z => nomatch z) (fun z => nomatch z)
    | q3 => exact h3 _ (fun z => nomatch z) (fun z => nomatch z) (fun z => nomatch z) (fun z => nomatch z)
    | q4 => exact h3 _ (fun z => nomatch z) (fun z => nomatch z) (fun z => nomatch z) (fun z => nomatch z)
    | q5 => rw [g5]; exact h3 _ (fun z => nomatch z) (fun z => nomatch z) (fun z => nomatch z) (fun z => nomatch z)
    | x c => exact h3 _ (fun z => nomatch z) (fun z => nomatch z) (fun z => nomatch z) (fun z => nomatch z)
    | d c => exact h3 _ (fun z => nomatch z) (fun z => nomatch z) (fun z => nomatch z) (fun z => nomatch z)
    | t c =>
      by_cases e : c = b
      · subst e
        rw [upd_same]
        simp only [hof, Sta.set, if_true]
      · rw [h3 (.t c) (fun z => nomatch z) (fun z => nomatch z) (fun z => nomatch z) (fun z => e (Plc.t.inj z))]
        simp only [hof, Sta.set, if_neg e]
    | m c =>
      by_cases e : c = b
      · subst e
        rw [upd_ne (ne (show Plc.m c ≠ Plc.t c from fun z => nomatch z)), kp _ _ upd_same (nin (fun z => nomatch z) (fun z => nomatch z))]
        simp only [hof, Sta.set, if_true]
      · rw [h3 (.m c) (fun z => e (Plc.m.inj z)) (fun z => nomatch z) (fun z => nomatch z) (fun z => nomatch z)]
        simp only [hof, Sta.set, if_neg e]
    | pm c =>
      by_cases e : c = b
      · subst e
        rw [upd_ne (ne (show Plc.pm c ≠ Plc.t c from fun z => nomatch z)), S2.mar]
        simp only [hof, Sta.set, if_true]
      · rw [h3 (.pm c) (fun z => nomatch z) (fun z => e (Plc.pm.inj z)) (fun z => nomatch z) (fun z => nomatch z)]
        simp only [hof, Sta.set, if_neg e]
    | pt c =>
      by_cases e : c = b
      · subst e
        rw [upd_ne (ne (show Plc.pt c ≠ Plc.t c from fun z => nomatch z)), S2.thi]
        simp only [hof, Sta.set, if_true]
      · rw [h3 (.pt c) (fun z => nomatch z) (fun z => nomatch z) (fun z => e (Plc.pt.inj z)) (fun z => nomatch z)]
        simp only [hof, Sta.set, if_neg e]
  · exact (same_keep (A.sm.set (A.fre _)) kp fun a ha => by
      rcases List.mem_cons.mp ha with z | z
      · rw [z]; exact A.fre _
      · rw [List.mem_singleton.mp z]; exact A.fre _).set (A.fre _)
def adP (ad : Plc → Addr) (b : Bool) (pm pt : Addr) : Plc → Addr
  | .pm c => if c = b then pm else ad (.pm c)
  | .pt c => if c = b then pt else ad (.pt c)
  | .q1 => ad .q1
  | .q2 => ad .q2
  | .q3 => ad .q3
  | .q4 => ad .q4
  | .q5 => ad .q5
  | .t c => ad (.t c)
  | .m c => ad (.m c)
  | .x c => ad (.x c)
  | .d c => ad (.d c)
theorem adP_inj {C : Addr} {H0 H : Hp} {ad : Plc → Addr} {S : Sta} (A : Ats C H0 ad S H) {b : Bool} {pm pt : Addr} (h1 : H pm = none) (h2 : H pt = none) (ne : pm ≠ pt) : ∀ l l', adP ad b pm pt l = adP ad b pm pt l' → l = l' := by
  have a1 : ∀ l, ad l ≠ pm := fun l z => by have := A.val l; rw [z, h1] at this; cases this
  have a2 : ∀ l, ad l ≠ pt := fun l z => by have := A.val l; rw [z, h2] at this; cases this
  have form : ∀ l, (l = .pm b ∧ adP ad b pm pt l = pm) ∨ (l = .pt b ∧ adP ad b pm pt l = pt) ∨ adP ad b pm pt l = ad l := fun l => by
    cases l with
    | pm c =>
      by_cases e : c = b
      · exact .inl ⟨by rw [e], if_pos e⟩
      · exact .inr (.inr (if_neg e))
    | pt c =>
      by_cases e : c = b
      · exact .inr (.inl ⟨by rw [e], if_pos e⟩)
      · exact .inr (.inr (if_neg e))
    | _ => exact .inr (.inr rfl)
  intro l l' h
  rcases form l with ⟨e1, f1⟩ | ⟨e1, f1⟩ | f1 <;> rcases form l' with ⟨e2, f2⟩ | ⟨e2, f2⟩ | f2 <;> rw [f1, f2] at h
  · rw [e1, e2]
  · exact absurd h ne
  · exact absurd h.symm (a1 _)
  · exact absurd h.symm ne
  · rw [e1, e2]
  · exact absurd h.symm (a2 _)
  · exact absurd h (a1 _)
  · exact absurd h (a2 _)
  · exact A.inj _ _ h
theorem Ats.put {C : Addr} {H0 H H2 : Hp} {ad : Plc → Addr} {S : Sta} (A : Ats C H0 ad S H) (b : Bool) {pm pt : Addr} {ms ts : List (List Nat)} {l : Nat}
    (kp : Keeps [ad (.x b)] H H2) (S2 : Shf C H2 (ad (.x b)) (ad (.d b)) pm pt (S.L b) ms ts) (h1 : H pm = none) (h2 : H pt = none) {H5 : Hp}
    (f : ∀ a o, a ≠ ad (.m b) → a ≠ ad (.t b) → a ≠ ad .q5 → H2 a = some o → H5 a = some o) (fm : H5 (ad (.m b)) = some (.lst (ms.map strV))) (ft : H5 (ad (.t b)) = some (.lst (ts.map strV)))
    (fq : H5 (ad .q5) = some (hof C ad (S.set b ms ts l) .q5)) :
    Ats C H0 (adP ad b pm pt) (S.set b ms ts l) H5 := by
  have ne : ∀ {l l' : Plc}, l ≠ l' → ad l ≠ ad l' := fun h z => h (A.inj _ _ z)
  have a1 : ∀ l, pm ≠ ad l := fun l z => by have := A.val l; rw [← z, h1] at this; cases this
  have a2 : ∀ l, pt ≠ ad l := fun l z => by have := A.val l; rw [← z, h2] at this; cases this
  have h3 : ∀ l, l ≠ .m b → l ≠ .t b → l ≠ .x b → l ≠ .q5 → H5 (ad l) = some (hof C ad S l) := fun l n1 n2 n3 n4 =>
    f _ _ (ne n1) (ne n2) (ne n4) (kp _ _ (A.val l) (fun z => ne n3 (List.mem_singleton.mp z)))
  refine ⟨adP_inj A h1 h2 S2.ne, fun l => ?_, fun l => ?_, ?_⟩
  · cases l with
    | q1 => exact h3 .q1 (fun z => nomatch z) (fun z => nomatch z) (fun z => nomatch z) (fun z => nomatch z)
    | q2 => exact h3 .q2 (fun z => nomatch z) (fun z => nomatch z) (fun z => nomatch z) (fun z => nomatch z)
    | q3 => exact h3 .q3 (fun z => nomatch z) (fun z => nomatch z) (fun z => nomatch z) (fun z => nomatch z)
    | q4 => exact h3 .q4 (fun z => nomatch z) (fun z => nomatch z) (fun z => nomatch z) (fun z => nomatch z)
    | q5 => exact fq
    | d c => exact h3 (.d c) (fun z => nomatch z) (fun z => nomatch z) (fun z => nomatch z) (fun z => nomatch z)
    | x c =>
      by_cases e : c = b
      · subst e
        refine (f _ _ (ne (show Plc.x c ≠ Plc.m c from fun z => nomatch z)) (ne (show Plc.x c ≠ Plc.t c from fun z => nomatch z)) (ne (show Plc.x c ≠ Plc.q5 from fun z => nomatch z)) S2.ins).trans ?_
        simp only [hof, Sta.set, adP, if_true]
      · refine (h3 (.x c) (fun z => nomatch z) (fun z => nomatch z) (fun z => e (Plc.x.inj z)) (fun z => nomatch z)).trans ?_
        simp only [hof, Sta.set, adP, if_neg e]
    | t c =>
      by_cases e : c = b
      · subst e
        refine ft.trans ?_
        simp only [hof, Sta.set, if_true]
      · refine (h3 (.t c) (fun z => nomatch z) (fun z => e (Plc.t.inj z)) (fun z => nomatch z) (fun z => nomatch z)).trans ?_
        simp only [hof, Sta.set, if_neg e]
    | m c =>
      by_cases e : c = b
      · subst e
        refine fm.trans ?_
        simp only [hof, Sta.set, if_true]
      · refine (h3 (.m c) (fun z => e (Plc.m.inj z)) (fun z => nomatch z) (fun z => nomatch z) (fun z => nomatch z)).trans ?_
        simp only [hof, Sta.set, if_neg e]
    | pm c =>
      by_cases e : c = b
      · subst e
        have := f _ _ (a1 _) (a1 _) (a1 _) S2.mar
        simp only [hof, Sta.set, adP, if_true]
        exact this
      · have := h3 (.pm c) (fun z => nomatch z) (fun z => nomatch z) (fun z => nomatch z) (fun z => nomatch z)
        simp only [hof, Sta.set, adP, if_neg e]
        exact this
    | pt c =>
      by_cases e : c = b
      · subst e
        have := f _ _ (a2 _) (a2 _) (a2 _) S2.thi
        simp only [hof, Sta.set, adP, if_true]
        exact this
      · have := h3 (.pt c) (fun z => nomatch z) (fun z => nomatch z) (fun z => nomatch z) (fun z => nomatch z)
        simp only [hof, Sta.set, adP, if_neg e]
        exact this
  · cases l with
    | pm c =>
      by_cases e : c = b
      · simp only [adP, if_pos e]; exact A.sm.free h1
      · simp only [adP, if_neg e]; exact A.fre _
    | pt c =>
      by_cases e : c = b
      · simp only [adP, if_pos e]; exact A.sm.free h2
      · simp only [adP, if_neg e]; exact A.fre _
    | _ => exact A.fre _
  · have s2 : Same H0 H2 := same_keep A.sm kp fun a ha => by rw [List.mem_singleton.mp ha]; exact A.fre _
    exact fun a o e => f a o (fun z => by rw [z, A.fre] at e; cases e) (fun z => by rw [z, A.fre] at e; cases e) (fun z => by rw [z, A.fre] at e; cases e) (s2 a o e)
end L2
set_option Elab.async false
set_option linter.all false
set_option maxRecDepth 100000
set_option maxHeartbeats 4000000
namespace L2
open PySem PySem.Spec PyProof.Rows MM
structure Own (H0 H : Hp) (as : List Addr) : Prop where
  nd : as.Nodup
  sm : Same H0 H
  fr : ∀ a ∈ as, H0 a = none
  lv : ∀ a ∈ as, ∃ o, H a = some o
theorem Own.none (H : Hp) : Own H H [] := ⟨.nil, Same.refl _, fun a h => (nomatch h), fun a h => (nomatch h)⟩
theorem Own.same {H0 H H' : Hp} {as : List Addr} (O : Own H0 H as) (s : Same H H') : Own H0 H' as := ⟨O.nd, O.sm.trans s, O.fr, fun a h => by obtain ⟨o, e⟩ := O.lv a h; exact ⟨o, s _ _ e⟩⟩
theorem Own.add {H0 H H' : Hp} {as : List Addr} {a : Addr} (O : Own H0 H as) (s : Same H H') (h : H a = Option.none) (hl : ∃ o, H' a = some o) : Own H0 H' (a :: as) := by
  refine ⟨List.nodup_cons.mpr ⟨fun z => ?_, O.nd⟩, O.sm.trans s, fun b hb => ?_, fun b hb => ?_⟩
  · obtain ⟨o, e⟩ := O.lv a z
    rw [h] at e
    cases e
  · rcases List.mem_cons.mp hb with e | e
    · rw [e]; exact O.sm.free h
    · exact O.fr b e
  · rcases List.mem_cons.mp hb with e | e
    · rw [e]; exact hl
    · obtain ⟨o, e⟩ := O.lv b e
      exact ⟨o, s _ _ e⟩
theorem Own.new {H0 H : Hp} {as : List Addr} {a : Addr} {o : HO} (O : Own H0 H as) (h : H a = Option.none) : Own H0 (upd H a o) (a :: as) := O.add (Same.up _ h) h ⟨_, upd_same⟩
theorem Own.shelf {H0 H H' : Hp} {as : List Addr} {C x dx pm pt : Addr} {L : Nat} {ms ts : List (List Nat)} (O : Own H0 H as) (s : Same H H') (S : Shf C H' x dx pm pt L ms ts) (h1 : H x = Option.none) (h2 : H dx = Option.none) (h3 : H pm = Option.none) (h4 : H pt = Option.none) :
    Own H0 H' (x :: dx :: pm :: pt :: as) := by
  have nmx : pm ≠ x := fun z => by subst z; have := S.ins.symm.trans S.mar; cases this
  have nmd : pm ≠ dx := fun z => by subst z; have := S.own.symm.trans S.mar; cases this
  have ntx : pt ≠ x := fun z => by subst z; have := S.ins.symm.trans S.thi; cases this
  have ntd : pt ≠ dx := fun z => by subst z; have := S.own.symm.trans S.thi; cases this
  have nxd : x ≠ dx := fun z => by subst z; have := S.own.symm.trans S.ins; cases this
  have out : ∀ {a : Addr}, H a = Option.none → a ∉ as := fun h z => by obtain ⟨o, e⟩ := O.lv _ z; rw [h] at e; cases e
  refine ⟨?_, O.sm.trans s, fun b hb => ?_, fun b hb => ?_⟩
  · refine List.nodup_cons.mpr ⟨fun z => ?_, List.nodup_cons.mpr ⟨fun z => ?_, List.nodup_cons.mpr ⟨fun z => ?_, List.nodup_cons.mpr ⟨out h4, O.nd⟩⟩⟩⟩
    · rcases List.mem_cons.mp z with e | z
      · exact nxd e
      rcases List.mem_cons.mp z with e | z
      · exact nmx e.symm
      rcases List.mem_cons.mp z with e | z
      · exact ntx e.symm
      · exact out h1 z
    · rcases List.mem_cons.mp z with e | z
      · exact nmd e.symm
      rcases List.mem_cons.mp z with e | z
      · exact ntd e.symm
      · exact out h2 z
    · rcases List.mem_cons.mp z with e | z
      · exact S.ne e
      · exact out h3 z
  · rcases List.mem_cons.mp hb with e | hb
    · rw [e]; exact O.sm.free h1
    rcases List.mem_cons.mp hb with e | hb
    · rw [e]; exact O.sm.free h2
    rcases List.mem_cons.mp hb with e | hb
    · rw [e]; exact O.sm.free h3
    rcases List.mem_cons.mp hb with e | hb
    · rw [e]; exact O.sm.free h4
    · exact O.fr b hb
  · rcases List.mem_cons.mp hb with e | hb
    · rw [e]; exact ⟨_, S.ins⟩
    rcases List.mem_cons.mp hb with e | hb
    · rw [e]; exact ⟨_, S.own⟩
    rcases List.mem_cons.mp hb with e | hb
    · rw [e]; exact ⟨_, S.mar⟩
    rcases List.mem_cons.mp hb with e | hb
    · rw [e]; exact ⟨_, S.thi⟩
    · obtain ⟨o, e⟩ := O.lv b hb
      exact ⟨o, s _ _ e⟩
end L2
set_option Elab.async false
set_option linter.all false
set_option maxRecDepth 100000
set_option maxHeartbeats 4000000
namespace L2
open PySem PySem.Spec PyProof.Rows MM
theorem Good.mono {L k k' : Nat} {ms ts : List (List Nat)} (G : Good L ms ts k) (h : k ≤ k') : Good L ms ts k' := ⟨G.row, G.th, Nat.le_trans G.few h, fun m hm => Nat.le_trans (G.len m hm) h⟩
theorem Good.renew {L k n : Nat} {ms ts : List (List Nat)} (G : Good L ms ts k) (R : IsRen L ts.length n) : Good L (renL L ts.length n) ts k := by
  have h2 := G.row.l2
  have hf := G.row.few
  have hn := R.le h2
  have hm := renL_mem (L := L) (by omega) R
  refine ⟨⟨h2, G.row.l26, renL_len _ _ _, hf, fun m h => ⟨(hm m h).1, by have := (hm m h).2; omega⟩, renL_lt (by omega) R⟩, G.th, G.few, fun m h => ?_⟩
  have := (hm m h).2
  have := G.few
  omega
def rdLRenewed : TS :=
    tSeq (tAsg (tC (.int 0)) (gName 2))
      (tSeq (tAsg (tC (.int 1)) (gName 3))
      (tSeq (tWhile (tTest (tOp rLtI (tOp rSubI (tVar 3) (tC (.int 1))) (tVar 1))) (tSeq (tAsg (tOp rAddI (tVar 2) (tC (.int 1))) (gName 2))
      (tAsg (tOp rMulI (tVar 3) (tVar 0)) (gName 3))))
      (tRet (tComp (iRng1 (tCons (tVar 1) tNil)) [0, 2, 3, 1] tYes (tCall spText [] E0 (tCons (tVar 1) (tCons (tOp rDivI (tOp rMulI (tOp rAddI (tVar 0) (tC (.int 1))) (tVar 3)) (tOp rAddI (tVar 4) (tC (.int 1)))) (tCons (tVar 2) tNil))))))))
def spLRenewed : Sp := fun vs H Q _ => ∃ (L m : Nat), vs = [.int L, .int m] ∧ 2 ≤ L ∧ L ≤ 26 ∧ m ≤ 10000 ∧ ∀ n p, IsRen L m n → H p = none → Q (.ref p) (upd H p (.lst ((renL L m n).map strV)))
theorem read_lrenewed {N : List Str} {vs : List V} {H : Hp} {Q : VK} {E : XK} (hN : N.length = 4) (h : spLRenewed vs H Q E) : rdLRenewed { nx := fun _ H' => Q .non H', rt := Q } (L2.start N vs) H := by
  obtain ⟨L, m, rfl, hL, hL26, hm, q⟩ := h
  unfold rdLRenewed L2.start
  rw [hN]
  refine seq_set fun c hc => ?_
  and_intros
  refine hc _ _ ?_
  clear hc c
  refine seq_set fun c hc => ?_
  and_intros
  refine hc _ _ ?_
  clear hc c
  refine seq_any fun c hc => ?_
  suffices main : ∀ n, IsRen L m n → c [some (.int L), some (.int m), some (.int n), some (.int (L ^ n : Nat))] H by
    refine while_of (fun x σ H' => H' = H ∧ ∃ (n : Nat), σ = [some (.int L), some (.int m), some (.int n), some (.int (L ^ n : Nat))] ∧ x = m + 1 - n ∧ ∀ i, i < n → L ^ i ≤ m) (m + 1) ⟨rfl, 0, rfl, by omega, fun i hi => by omega⟩ ?_
    rintro x σ H2 ⟨rfl, n, rfl, hx, hpp⟩ R hgo hstop
    and_intros
    have hpow := Nat.lt_pow_self (n := n) (show 1 < L by omega)
    by_cases h1 : ((L ^ n : Nat) : Int) - 1 < (m : Int)
    · rw [decide_eq_true h1]
      refine hgo _ ?_
      and_intros
      refine ⟨mulB_r (by omega) (by omega), m + 1 - (n + 1), by omega, n + 1, by rw [Nat.pow_succ, Int.natCast_mul]; rfl, rfl, fun i hi => ?_⟩
      by_cases e : i = n
      · subst e; omega
      · exact hpp i (by omega)
    · rw [decide_eq_false h1]
      refine hstop _ ?_
      exact main n ⟨by omega, hpp⟩
  intro n R
  have hn := R.le hL
  refine hc _ _ ?_
  and_intros
  refine comp_r1 (j := m) (fun Q h => ⟨_, rfl, h⟩) (by omega) (by omega) (Nat.le_trans (show (m : Int).toNat ≤ 100000 by omega) (by decide))
    (fun i ys H' => H' = H ∧ ys = ((List.range i).map fun k => mk L (renW L m n k) n).map strV) ⟨rfl, rfl⟩
    (fun i ys H' _ p => by rw [p.2, List.length_map, List.length_map, List.length_range]; exact Nat.le_refl _) ?_ ?_
  · rintro i ys H' hi ⟨rfl, rfl⟩ R1 hR1
    and_intros
    refine ⟨mulB_l (by omega) (by omega), cdiv (by omega) (by omega), L, renW L m n i, n, ?_, by omega, hL26, by omega, hR1 _ _ ⟨rfl, ?_⟩⟩
    · unfold renW
      rw [Int.natCast_ediv, Int.natCast_mul]
      rfl
    · rw [List.range_succ, List.map_append, List.map_append, List.map_cons, List.map_nil, List.map_cons, List.map_nil]
      rfl
  · rintro ys H' ⟨rfl, rfl⟩ p2 hp2
    rw [Int.toNat_natCast]
    exact q n p2 R hp2
structure One (C : Addr) (H0 H : Hp) (x dx pm pt p : Addr) (L : Nat) (ms ts : List (List Nat)) : Prop where
  shf : Shf C H x dx pm pt L ms ts
  lst : H p = some (.lst (ts.map strV))
  n1 : p ≠ pm
  n2 : p ≠ pt
  fx : H0 x = none
  fm : H0 pm = none
  ft : H0 pt = none
  fp : H0 p = none
  sm : Same H0 H
section
variable {C : Addr} {H0 H H2 : Hp} {x dx pm pt p : Addr} {L : Nat} {ms ts : List (List Nat)}
theorem One.same (O : One C H0 H x dx pm pt p L ms ts) (s : Same H H2) : One C H0 H2 x dx pm pt p L ms ts := ⟨O.shf.same s, s _ _ O.lst, O.n1, O.n2, O.fx, O.fm, O.ft, O.fp, O.sm.trans s⟩
theorem One.px (O : One C H0 H x dx pm pt p L ms ts) : p ≠ x := fun z => by subst z; have := O.lst.symm.trans O.shf.ins; cases this
theorem One.pd (O : One C H0 H x dx pm pt p L ms ts) : p ≠ dx := fun z => by subst z; have := O.lst.symm.trans O.shf.own; cases this
theorem One.to (O : One C H0 H x dx pm pt p L ms ts) {pm' pt' : Addr} {ms' ts' : List (List Nat)} (S : Shf C H2 x dx pm' pt' L ms' ts') (h1 : p ≠ pm') (h2 : p ≠ pt') (f1 : H0 pm' = none) (f2 : H0 pt' = none) (s : Same H0 H2) : One C H0 (upd H2 p (.lst (ts'.map strV))) x dx pm' pt' p L ms' ts' :=
  ⟨⟨by rw [upd_ne (Ne.symm O.px)]; exact S.ins, by rw [upd_ne (Ne.symm O.pd)]; exact S.own, by rw [upd_ne (Ne.symm h1)]; exact S.mar, by rw [upd_ne (Ne.symm h2)]; exact S.thi, S.ne⟩, upd_same, h1, h2, O.fx, f1, f2, O.fp, s.set O.fp⟩
theorem One.put (O : One C H0 H x dx pm pt p L ms ts) {pm' pt' : Addr} {ms' ts' : List (List Nat)} (k : Keeps [x] H H2) (S : Shf C H2 x dx pm' pt' L ms' ts') (h1 : H pm' = none) (h2 : H pt' = none) : H2 p = some (.lst (ts.map strV)) ∧ One C H0 (upd H2 p (.lst (ts'.map strV))) x dx pm' pt' p L ms' ts' :=
  ⟨k _ _ O.lst (fun z => O.px (List.mem_singleton.mp z)), O.to S (fun z => by subst z; rw [O.lst] at h1; cases h1) (fun z => by subst z; rw [O.lst] at h2; cases h2) (O.sm.free h1) (O.sm.free h2) (same_keep O.sm k fun a ha => by rw [List.mem_singleton.mp ha]; exact O.fx)⟩
theorem One.take (O : One C H0 H x dx pm pt p L ms ts) {ms' ts' : List (List Nat)} (k : Keeps [pm, pt] H H2) (S : Shf C H2 x dx pm pt L ms' ts') : H2 p = some (.lst (ts.map strV)) ∧ One C H0 (upd H2 p (.lst (ts'.map strV))) x dx pm pt p L ms' ts' :=
  ⟨k _ _ O.lst (fun z => by
      rcases List.mem_cons.mp z with z | z
      · exact O.n1 z
      · exact O.n2 (List.mem_singleton.mp z)), O.to S O.n1 O.n2 O.fm O.ft (same_keep O.sm k fun a ha => by
      rcases List.mem_cons.mp ha with z | z
      · rw [z]; exact O.fm
      · rw [List.mem_singleton.mp z]; exact O.ft)⟩
theorem One.renew (O : One C H0 H x dx pm pt p L ms ts) {pm' : Addr} {ms' : List (List Nat)} (k : Keeps [x] H H2) (S : Shf C H2 x dx pm' pt L ms' ts) (h1 : H pm' = none) : One C H0 H2 x dx pm' pt p L ms' ts :=
  ⟨S, k _ _ O.lst (fun z => O.px (List.mem_singleton.mp z)), (fun z => by subst z; rw [O.lst] at h1; cases h1), O.n2, O.fx, O.sm.free h1, O.ft, O.fp, same_keep O.sm k fun a ha => by rw [List.mem_singleton.mp ha]; exact O.fx⟩
end
end L2
set_option Elab.async false
set_option linter.all false
set_option maxRecDepth 100000
set_option maxHeartbeats 4000000
namespace L2
open PySem PySem.Spec PyProof.Rows MM
end L2
set_option Elab.async false
set_option linter.all false
set_option maxRecDepth 100000
set_option maxHeartbeats 4000000
namespace L2
open PySem PySem.Spec PyProof.Rows MM
end L2
set_option Elab.async false
set_option linter.all false
set_option maxRecDepth 100000
set_option maxHeartbeats 4000000
namespace L2
open PySem PySem.Spec PyProof.Rows MM
structure RunOk (L n k : Nat) (lo hi : Option (List Nat)) (rs : List (List Nat)) : Prop where
  mar : ∀ z ∈ rs, Mark L z ∧ z.length = n
  up : rs.Pairwise (· < ·)
  lo : ∀ z ∈ rs, ∀ l, lo = some l → l < z
  hi : ∀ z ∈ rs, ∀ u, hi = some u → z < u
  len : rs.length = k
theorem Good.puts {L g i n : Nat} {ms ts zs rs : List (List Nat)} (G : Good L ms ts g) (hg : g ≤ 800) (hi : i ≤ ts.length) (ok : RunOk L n zs.length (aheadO ms i) ms[i]? rs) (LN : LeastB true L (endsL L 1 0) (aheadO ms i) ms[i]? zs.length n) (hz : ∀ z ∈ zs, Thing z) (hf : ts.length + zs.length ≤ 300) (hk : zs.length ≤ 100) : Good L (setIn ms i rs) (setIn ts i zs) (g + zs.length + 1) := by
  obtain ⟨b1, b2⟩ := G.lens i
  have hfew := G.few
  have hn : n ≤ g + zs.length + 1 := by
    rcases LN.len with h | h <;> omega
  refine ⟨G.row.puts hi ok.len hf (fun z h => ⟨(ok.mar z h).1, by have := (ok.mar z h).2; omega⟩) ok.up ok.lo ok.hi, fun z h => ?_, by rw [len_setIn hi]; omega, fun z h => ?_⟩
  · rcases mem_setIn h with h | h
    · exact G.th z h
    · exact hz z h
  · rcases mem_setIn h with h | h
    · have := G.len z h; omega
    · have := (ok.mar z h).2; omega
end L2
set_option Elab.async false
set_option linter.all false
set_option maxRecDepth 100000
set_option maxHeartbeats 4000000
namespace L2
open PySem PySem.Spec PyProof.Rows MM
structure Two (C : Addr) (H0 H : Hp) (x dx pm pt pl pk : Addr) (L : Nat) (ms ts : List (List Nat)) : Prop where
  one : One C H0 H x dx pm pt pl L ms ts
  lst : H pk = some (.lst (ms.map strV))
  n1 : pk ≠ pm
  n2 : pk ≠ pt
  n3 : pk ≠ pl
  fk : H0 pk = none
section
variable {C : Addr} {H0 H H2 : Hp} {x dx pm pt pl pk : Addr} {L : Nat} {ms ts : List (List Nat)}
theorem Two.same (O : Two C H0 H x dx pm pt pl pk L ms ts) (s : Same H H2) : Two C H0 H2 x dx pm pt pl pk L ms ts := ⟨O.one.same s, s _ _ O.lst, O.n1, O.n2, O.n3, O.fk⟩
theorem Two.kx (O : Two C H0 H x dx pm pt pl pk L ms ts) : pk ≠ x := fun z => by subst z; have := O.lst.symm.trans O.one.shf.ins; cases this
theorem Two.kd (O : Two C H0 H x dx pm pt pl pk L ms ts) : pk ≠ dx := fun z => by subst z; have := O.lst.symm.trans O.one.shf.own; cases this
theorem Two.lists (O : Two C H0 H x dx pm pt pl pk L ms ts) {zk zl : List V} : Shf C (upd (upd H pk (.lst zk)) pl (.lst zl)) x dx pm pt L ms ts ∧ Same H0 (upd (upd H pk (.lst zk)) pl (.lst zl)) := by
  have S := O.one.shf
  refine ⟨⟨?_, ?_, ?_, ?_, S.ne⟩, (O.one.sm.set O.fk).set O.one.fp⟩
  · rw [upd_ne (Ne.symm O.one.px), upd_ne (Ne.symm O.kx)]; exact S.ins
  · rw [upd_ne (Ne.symm O.one.pd), upd_ne (Ne.symm O.kd)]; exact S.own
  · rw [upd_ne (Ne.symm O.one.n1), upd_ne (Ne.symm O.n1)]; exact S.mar
  · rw [upd_ne (Ne.symm O.one.n2), upd_ne (Ne.symm O.n2)]; exact S.thi
theorem Two.take (O : Two C H0 H x dx pm pt pl pk L ms ts) {ms' ts' : List (List Nat)} (k : Keeps [pm, pt] (upd (upd H pk (.lst (ms'.map strV))) pl (.lst (ts'.map strV))) H2) (S : Shf C H2 x dx pm pt L ms' ts') : Two C H0 H2 x dx pm pt pl pk L ms' ts' := by
  have nk : pk ∉ [pm, pt] := fun z => by
    rcases List.mem_cons.mp z with z | z
    · exact O.n1 z
    · exact O.n2 (List.mem_singleton.mp z)
  have nl : pl ∉ [pm, pt] := fun z => by
    rcases List.mem_cons.mp z with z | z
    · exact O.one.n1 z
    · exact O.one.n2 (List.mem_singleton.mp z)
  refine ⟨⟨S, k _ _ upd_same nl, O.one.n1, O.one.n2, O.one.fx, O.one.fm, O.one.ft, O.one.fp, same_keep ((O.one.sm.set O.fk).set O.one.fp) k fun a ha => ?_⟩, k _ _ (by rw [upd_ne O.n3, upd_same]) nk, O.n1, O.n2, O.n3, O.fk⟩
  rcases List.mem_cons.mp ha with z | z
  · rw [z]; exact O.one.fm
  · rw [List.mem_singleton.mp z]; exact O.one.ft
theorem Two.put (O : Two C H0 H x dx pm pt pl pk L ms ts) {pm' pt' pl' pk' : Addr} {H3 : Hp} {ms' ts' : List (List Nat)} (k : Keeps [x] H H2) (S : Shf C H2 x dx pm' pt' L ms' ts') (h1 : H pm' = none) (h2 : H pt' = none)
    (f : ∀ a o, a ≠ pl' → a ≠ pk' → H2 a = some o → H3 a = some o) (v1 : H3 pl' = some (.lst (ts'.map strV))) (v2 : H3 pk' = some (.lst (ms'.map strV))) (n3 : pk' ≠ pl') (a1 : H0 pl' = none) (a2 : H0 pk' = none)
    (b1 : pl' ≠ pm') (b2 : pl' ≠ pt') (b3 : pk' ≠ pm') (b4 : pk' ≠ pt') (c1 : pl' ≠ x) (c2 : pk' ≠ x) (d1 : pl' ≠ dx) (d2 : pk' ≠ dx) : Two C H0 H3 x dx pm' pt' pl' pk' L ms' ts' := by
  have s2 : Same H0 H2 := same_keep O.one.sm k fun a ha => by rw [List.mem_singleton.mp ha]; exact O.one.fx
  refine ⟨⟨⟨f _ _ (Ne.symm c1) (Ne.symm c2) S.ins, f _ _ (Ne.symm d1) (Ne.symm d2) S.own, f _ _ (Ne.symm b1) (Ne.symm b3) S.mar, f _ _ (Ne.symm b2) (Ne.symm b4) S.thi, S.ne⟩, v1, b1, b2, O.one.fx, O.one.sm.free h1, O.one.sm.free h2, a1, fun a o e => ?_⟩, v2, b3, b4, n3, a2⟩
  exact f a o (fun z => by rw [z, a1] at e; cases e) (fun z => by rw [z, a2] at e; cases e) (s2 a o e)
end
end L2
set_option Elab.async false
set_option linter.all false
set_option maxRecDepth 100000
set_option maxHeartbeats 4000000
namespace L2
open PySem PySem.Spec PyProof.Rows MM
theorem numI_in {L n : Nat} {lo hi : Option (List Nat)} (h : loN L lo n < hiN L hi n) : loN L lo n ≤ numI L lo hi n ∧ numI L lo hi n < hiN L hi n := by
  cases lo <;> cases hi <;> simp only [numI] <;> omega
theorem LeastI.at_num {L n n2 w : Nat} {lo hi : Option (List Nat)} {m : List Nat} (A : LeastI L lo hi n) (hL : 2 ≤ L) (M : MarksOk L lo hi) (ok : OkLH lo hi) (F : Found L (endsL L 1 0) lo hi n2 w m) : n2 = n ∧ w = numI L lo hi n := by
  have hL0 : 0 < L := by omega
  have e1 := (A.least hL M ok).2 n2 F.least
  subst e1
  have hw : w < L ^ n2 := Nat.lt_of_lt_of_le F.lt (ahead_le n2 hL0 M)
  have hn2 : numI L lo hi n2 < L ^ n2 := Nat.lt_of_lt_of_le (numI_in A.some_).2 (ahead_le n2 hL0 M)
  have e2 := A.found hL M ok F
  have v1 : val L m n2 = w := by rw [F.eq, low_val_eq hL0, Nat.mod_eq_of_lt hw]
  have v2 : val L m n2 = numI L lo hi n2 := by rw [e2, mk_val hL0 hn2]
  exact ⟨rfl, by omega⟩
section
variable {L n : Nat} {lo hi : Option (List Nat)}
theorem hiN_up {v : Nat} (hL : 2 ≤ L) (hm : ∀ m, hi = some m → Mark L m) (h : v < hiN L hi n) : v * L < hiN L hi (n + 1) := by
  cases hi with
  | none =>
    show v * L < L ^ (n + 1)
    have h : v < L ^ n := h
    rw [Nat.pow_succ]
    exact Nat.mul_lt_mul_of_pos_right h (by omega)
  | some u =>
    have mu := hm u rfl
    have e1 : hiN L (some u) n = if n < u.length then val L u n + 1 else val L u n := rfl
    have e2 : hiN L (some u) (n + 1) = if n + 1 < u.length then val L u (n + 1) + 1 else val L u (n + 1) := rfl
    rw [e1] at h
    rw [e2, val_succ]
    by_cases c : n < u.length
    · rw [if_pos c] at h
      have h1 : v * L ≤ val L u n * L := Nat.mul_le_mul_right _ (by omega)
      by_cases d : n + 1 < u.length
      · rw [if_pos d]; omega
      · rw [if_neg d]
        have hlen : u.length = n + 1 := by omega
        have hp : 0 < fig u n := by
          have hl : u.getLast? = some u[n] := by rw [List.getLast?_eq_getElem?, hlen, Nat.add_sub_cancel, List.getElem?_eq_getElem c]
          have a := mu.na _ hl
          have b := mu.ls u[n] (List.getElem_mem c)
          unfold fig
          rw [List.getElem?_eq_getElem c]
          simp only []
          omega
        omega
    · rw [if_neg c] at h
      rw [if_neg (by omega)]
      have : v * L < val L u n * L := Nat.mul_lt_mul_of_pos_right h (by omega)
      omega
theorem hiN_le (hL : 2 ≤ L) (hm : ∀ m, hi = some m → Mark L m) : hiN L hi (n + 1) ≤ hiN L hi n * L := by
  have fl := figO_lt (L := L) (n := n) (by omega) (o := hi) fun m e => (hm m e).ls
  cases hi with
  | none =>
    show L ^ (n + 1) ≤ L ^ n * L
    rw [Nat.pow_succ]
    exact Nat.le_refl _
  | some u =>
    have e1 : hiN L (some u) n = if n < u.length then val L u n + 1 else val L u n := rfl
    have e2 : hiN L (some u) (n + 1) = if n + 1 < u.length then val L u (n + 1) + 1 else val L u (n + 1) := rfl
    have fl : fig u n < L := fl
    rw [e1, e2, val_succ]
    by_cases c : n < u.length
    · rw [if_pos c, Nat.add_mul, Nat.one_mul]
      split <;> omega
    · rw [if_neg c, if_neg (by omega)]
      have e3 : fig u n = 0 := by unfold fig; rw [List.getElem?_eq_none (by omega)]
      omega
theorem loN_bd (hL : 2 ≤ L) (hm : ∀ m, lo = some m → Mark L m) : valO L lo n * L ≤ valO L lo (n + 1) ∧ valO L lo (n + 1) < (valO L lo n + 1) * L := by
  have fl := figO_lt (L := L) (n := n) (by omega) (o := lo) fun m e => (hm m e).ls
  rw [valO_succ, Nat.add_mul, Nat.one_mul]
  omega
theorem between_up (hL : 2 ≤ L) (M : MarksOk L lo hi) (h : loN L lo n < hiN L hi n) : loN L lo (n + 1) < hiN L hi (n + 1) := by
  have a := hiN_up hL (fun m e => (M.mhi m e).1) h
  have b := (loN_bd (n := n) hL fun m e => (M.mlo m e).1).2
  have c : loN L lo (n + 1) = valO L lo (n + 1) + 1 := rfl
  have d : loN L lo n = valO L lo n + 1 := rfl
  rw [d] at a
  omega
theorem leastI_of (hL : 2 ≤ L) (M : MarksOk L lo hi) (hn : 1 ≤ n) (s : loN L lo n < hiN L hi n) (h : ∀ n', n = n' + 1 → 1 ≤ n' → hiN L hi n' ≤ loN L lo n') : LeastI L lo hi n := by
  refine ⟨hn, s, fun m h1 h2 => ?_⟩
  rcases Nat.lt_or_ge (loN L lo m) (hiN L hi m) with z | z
  · exfalso
    have up : ∀ d, loN L lo (m + d) < hiN L hi (m + d) := fun d => by
      induction d with
      | zero => exact z
      | succ d ih => exact between_up hL M ih
    have a := up (n - 1 - m)
    have b := h (n - 1) (by omega) (by omega)
    rw [show m + (n - 1 - m) = n - 1 by omega] at a
    omega
  · exact z
theorem next_len (hL : 2 ≤ L) (M : MarksOk L lo hi) (ok : OkLH lo hi) (h1 : lenO lo ≤ n) (h2 : lenO hi ≤ n) (hn : 1 ≤ n) (e : hiN L hi n ≤ loN L lo n) : LeastI L lo hi (n + 1) ∧ loN L lo (n + 1) + (L - 1) ≤ hiN L hi (n + 1) := by
  have hL0 : 0 < L := by omega
  have va := val_apart hL0 M ok h1 h2
  have ea : hiN L hi (n + 1) = highO L hi n * L := by
    have e3 : highO L hi (n + 1) = highO L hi n * L := by rw [highO_succ, figO_end h2, Nat.add_zero]
    cases hi with
    | none => exact e3
    | some u =>
      have h2 : u.length ≤ n := h2
      show (if n + 1 < u.length then _ else _) = _
      rw [if_neg (by omega)]
      exact e3
  have eb : loN L lo (n + 1) = valO L lo n * L + 1 := by
    show valO L lo (n + 1) + 1 = _
    rw [valO_succ, figO_end h1, Nat.add_zero]
  have hm : (valO L lo n + 1) * L ≤ highO L hi n * L := Nat.mul_le_mul_right _ va
  rw [Nat.add_mul, Nat.one_mul] at hm
  have rm : loN L lo (n + 1) + (L - 1) ≤ hiN L hi (n + 1) := by rw [ea, eb]; omega
  refine ⟨leastI_of hL M (by omega) (by omega) fun n' e1 _ => ?_, rm⟩
  obtain rfl : n = n' := by omega
  exact e
structure Halves (L : Nat) (lo hi : Option (List Nat)) (n w : Nat) (m : List Nat) : Prop where
  mark : Mark L m
  len : m.length = n
  hi_ : hiN L (some m) n = w
  lo_ : loN L (some m) n = w + 1
  m1 : MarksOk L lo (some m)
  m2 : MarksOk L (some m) hi
  o1 : OkLH lo (some m)
  o2 : OkLH (some m) hi
  e1 : ∀ n', n = n' + 1 → 1 ≤ n' → hiN L (some m) n' ≤ loN L lo n'
  e2 : ∀ n', n = n' + 1 → 1 ≤ n' → hiN L hi n' ≤ loN L (some m) n'
theorem LeastI.halves {w : Nat} {m : List Nat} (A : LeastI L lo hi n) (hL : 2 ≤ L) (M : MarksOk L lo hi) (ok : OkLH lo hi) (hn : n ≤ 1000) (F : Found L (endsL L 1 0) lo hi n w m) : Halves L lo hi n w m := by
  have hL0 : 0 < L := by omega
  obtain ⟨a1, a2, a3, a4⟩ := F.all hL M ok
  have hw : w < L ^ n := Nat.lt_of_lt_of_le F.lt (ahead_le n hL0 M)
  have hlen : m.length = n := by rw [F.eq, low_length]
  have hv : val L m n = w := by rw [F.eq, low_val_eq hL0, Nat.mod_eq_of_lt hw]
  have eh : ∀ n', hiN L (some m) n' = if n' < m.length then val L m n' + 1 else val L m n' := fun _ => rfl
  have el : ∀ n', loN L (some m) n' = val L m n' + 1 := fun _ => rfl
  have mm : ∀ x, some m = some x → Mark L x ∧ x.length ≤ 1000 := fun x e => by cases e; exact ⟨a1, by omega⟩
  have ge : valO L lo n + 1 ≤ w := F.ge
  have lt : w < hiN L hi n := F.lt
  refine ⟨a1, hlen, by rw [eh, if_neg (by omega), hv], by rw [el, hv], ⟨M.mlo, mm⟩, ⟨mm, M.mhi⟩, fun l h e1 e2 => by cases e2; exact a3 l e1, fun l h e1 e2 => by cases e1; exact a4 h e2, fun n' en h1 => ?_, fun n' en h1 => ?_⟩
  · have hA := A.less n' h1 (by omega)
    subst en
    have hs : val L m n' * L ≤ w := by rw [← hv, val_succ]; omega
    have hl := hiN_le (n := n') hL fun m e => (M.mhi m e).1
    have hm : hiN L hi n' * L ≤ (valO L lo n' + 1) * L := Nat.mul_le_mul_right _ hA
    have : val L m n' < valO L lo n' + 1 := Nat.lt_of_mul_lt_mul_right (a := L) (by omega)
    rw [eh, if_pos (by omega)]
    show val L m n' + 1 ≤ valO L lo n' + 1
    omega
  · have hA := A.less n' h1 (by omega)
    subst en
    have fl := figO_lt (L := L) (n := n') hL0 (o := some m) fun x e => by cases e; exact a1.ls
    have fl : fig m n' < L := fl
    have hs : w < (val L m n' + 1) * L := by rw [← hv, val_succ, Nat.add_mul, Nat.one_mul]; omega
    have hb := (loN_bd (n := n') hL fun m e => (M.mlo m e).1).1
    have : valO L lo n' < val L m n' + 1 := Nat.lt_of_mul_lt_mul_right (a := L) (by omega)
    rw [el]
    have hA : hiN L hi n' ≤ valO L lo n' + 1 := hA
    omega
end
def gapC (L f k : Nat) (lo hi : Option (List Nat)) (n : Nat) : Prop := match lo, hi with
  | some _, some _ => ∃ j, 1 ≤ j ∧ j ≤ f ∧ 2 ^ j ≤ hiN L hi n - loN L lo n + 1 ∧ f * n + 1 ≤ k + f + j
  | none, none => k = 0 ∧ n = 1
  | _, _ => f * n ≤ k + f ∧ f * n ≤ k + (hiN L hi n - loN L lo n)
structure Gap (L f k : Nat) (lo hi : Option (List Nat)) (n : Nat) : Prop where
  least : LeastI L lo hi n
  l1 : lenO lo ≤ n
  l2 : lenO hi ≤ n
  c : gapC L f k lo hi n
section
variable {L f k n : Nat}
theorem f_lt (h : 2 ^ f ≤ L) : f < L := Nat.lt_of_lt_of_le Nat.lt_two_pow_self h
theorem gap_in {a b : List Nat} {j : Nat} (hL : 2 ≤ L) (hf : 1 ≤ f) (hp : 2 ^ f ≤ L) (M : MarksOk L (some a) (some b)) (ok : OkLH (some a) (some b)) (hn : 1 ≤ n) (h1 : a.length ≤ n) (h2 : b.length ≤ n)
    (he : ∀ n', n = n' + 1 → 1 ≤ n' → hiN L (some b) n' ≤ loN L (some a) n') (hj : j + 1 ≤ f) (hr : 2 ^ j ≤ hiN L (some b) n - loN L (some a) n + 1) (hc : f * n + 1 ≤ k + f + (j + 1)) : ∃ n', Gap L f (k + 1) (some a) (some b) n' := by
  rcases Nat.lt_or_ge (loN L (some a) n) (hiN L (some b) n) with z | z
  · refine ⟨n, leastI_of hL M hn z he, h1, h2, ?_⟩
    cases j with
    | zero => exact ⟨1, Nat.le_refl _, hf, by rw [Nat.pow_one]; omega, by omega⟩
    | succ j => exact ⟨j + 1, by omega, by omega, hr, by omega⟩
  · obtain ⟨A, r⟩ := next_len hL M ok h1 h2 hn z
    have e0 : hiN L (some b) n - loN L (some a) n = 0 := Nat.sub_eq_zero_of_le z
    have hj0 : j = 0 := by
      rw [e0] at hr
      have : j < 2 ^ j := Nat.lt_two_pow_self
      omega
    subst hj0
    have h1 : lenO (some a) ≤ n := h1
    have h2 : lenO (some b) ≤ n := h2
    exact ⟨n + 1, A, by omega, by omega, f, hf, Nat.le_refl _, by omega, by rw [Nat.mul_succ]; omega⟩
theorem gap_lo {b : List Nat} (hL : 2 ≤ L) (hf : 1 ≤ f) (hp : 2 ^ f ≤ L) (M : MarksOk L none (some b)) (ok : OkLH none (some b)) (hn : 1 ≤ n) (h2 : b.length ≤ n)
    (he : ∀ n', n = n' + 1 → 1 ≤ n' → hiN L (some b) n' ≤ loN L none n') (c1 : f * n ≤ k + 1 + f) (c2 : f * n ≤ k + 1 + (hiN L (some b) n - loN L none n)) : ∃ n', Gap L f (k + 1) none (some b) n' := by
  have hfl := f_lt hp
  have h2 : lenO (some b) ≤ n := h2
  rcases Nat.lt_or_ge (loN L none n) (hiN L (some b) n) with z | z
  · exact ⟨n, leastI_of hL M hn z he, Nat.zero_le _, h2, c1, c2⟩
  · obtain ⟨A, r⟩ := next_len hL M ok (Nat.zero_le _) h2 hn z
    have e0 : hiN L (some b) n - loN L none n = 0 := Nat.sub_eq_zero_of_le z
    rw [e0] at c2
    exact ⟨n + 1, A, Nat.zero_le _, by omega, by rw [Nat.mul_succ]; omega, by rw [Nat.mul_succ]; omega⟩
theorem gap_hi {a : List Nat} (hL : 2 ≤ L) (hf : 1 ≤ f) (hp : 2 ^ f ≤ L) (M : MarksOk L (some a) none) (ok : OkLH (some a) none) (hn : 1 ≤ n) (h1 : a.length ≤ n)
    (he : ∀ n', n = n' + 1 → 1 ≤ n' → hiN L none n' ≤ loN L (some a) n') (c1 : f * n ≤ k + 1 + f) (c2 : f * n ≤ k + 1 + (hiN L none n - loN L (some a) n)) : ∃ n', Gap L f (k + 1) (some a) none n' := by
  have hfl := f_lt hp
  have h1 : lenO (some a) ≤ n := h1
  rcases Nat.lt_or_ge (loN L (some a) n) (hiN L none n) with z | z
  · exact ⟨n, leastI_of hL M hn z he, h1, Nat.zero_le _, c1, c2⟩
  · obtain ⟨A, r⟩ := next_len hL M ok h1 (Nat.zero_le _) hn z
    have e0 : hiN L none n - loN L (some a) n = 0 := Nat.sub_eq_zero_of_le z
    rw [e0] at c2
    exact ⟨n + 1, A, by omega, Nat.zero_le _, by rw [Nat.mul_succ]; omega, by rw [Nat.mul_succ]; omega⟩
theorem Gap.more {lo hi : Option (List Nat)} (G : Gap L f k lo hi n) (h : lo ≠ none ∨ hi ≠ none) : Gap L f (k + 1) lo hi n := by
  refine ⟨G.least, G.l1, G.l2, ?_⟩
  have c := G.c
  cases lo <;> cases hi <;> simp only [gapC] at c ⊢
  · simp at h
  · omega
  · omega
  · obtain ⟨j, a, b, d, e⟩ := c
    exact ⟨j, a, b, d, by omega⟩
theorem Gap.step {lo hi : Option (List Nat)} {n2 w : Nat} {m : List Nat} (hL : 2 ≤ L) (hf : 1 ≤ f) (hp : 2 ^ f ≤ L) (M : MarksOk L lo hi) (ok : OkLH lo hi) (hn : n ≤ 1000) (G : Gap L f k lo hi n) (F : Found L (endsL L 1 0) lo hi n2 w m) :
    (∃ n', Gap L f (k + 1) lo (some m) n') ∧ (∃ n', Gap L f (k + 1) (some m) hi n') ∧ (lo = none ∧ hi = none → m.length = 1) ∧ (¬ (lo = none ∧ hi = none) → f * m.length + 1 ≤ k + 2 * f) := by
  have A := G.least
  obtain ⟨rfl, hw⟩ := A.at_num hL M ok F
  have B := A.halves hL M ok hn F
  have hlt := A.some_
  have h1 := A.pos
  have g1 := G.l1
  have g2 := G.l2
  have hc := G.c
  have bl := B.len
  have bh := B.hi_
  have bo := B.lo_
  cases lo with
  | none =>
    cases hi with
    | none =>
      simp only [gapC] at hc
      simp only [numI] at hw
      obtain ⟨rfl, rfl⟩ := hc
      have x1 : loN L none 1 = 1 := by show valO L none 1 + 1 = 1; simp [valO]
      have x2 : hiN L none 1 = L := by show L ^ 1 = L; exact Nat.pow_one L
      have hh : f ≤ L / 2 := by
        obtain ⟨f', rfl⟩ : ∃ f', f = f' + 1 := ⟨f - 1, by omega⟩
        have : f' < 2 ^ f' := Nat.lt_two_pow_self
        rw [Nat.pow_succ] at hp
        omega
      rw [x1, x2] at hw
      refine ⟨gap_lo hL hf hp B.m1 B.o1 h1 (by omega) B.e1 (by omega) (by rw [bh, x1]; omega), gap_hi hL hf hp B.m2 B.o2 h1 (by omega) B.e2 (by omega) (by rw [bo, x2]; omega), fun _ => bl, fun z => absurd ⟨rfl, rfl⟩ z⟩
    | some b =>
      simp only [gapC] at hc
      simp only [numI] at hw
      have g2 : b.length ≤ n2 := g2
      refine ⟨gap_lo hL hf hp B.m1 B.o1 h1 (by omega) B.e1 (by omega) (by rw [bh]; omega), gap_in (j := 0) hL hf hp B.m2 B.o2 h1 (by omega) g2 B.e2 hf (by rw [Nat.pow_zero]; omega) (by omega), fun z => (nomatch z.2), fun _ => by rw [bl]; omega⟩
  | some a =>
    have g1 : a.length ≤ n2 := g1
    cases hi with
    | none =>
      simp only [gapC] at hc
      simp only [numI] at hw
      refine ⟨gap_in (j := 0) hL hf hp B.m1 B.o1 h1 g1 (by omega) B.e1 hf (by rw [Nat.pow_zero]; omega) (by omega), gap_hi hL hf hp B.m2 B.o2 h1 (by omega) B.e2 (by omega) (by rw [bo]; omega), fun z => (nomatch z.1), fun _ => by rw [bl]; omega⟩
    | some b =>
      simp only [gapC] at hc
      simp only [numI] at hw
      have g2 : b.length ≤ n2 := g2
      obtain ⟨j, j1, j2, j3, j4⟩ := hc
      obtain ⟨j', rfl⟩ : ∃ j', j = j' + 1 := ⟨j - 1, by omega⟩
      rw [Nat.pow_succ] at j3
      generalize hpp : 2 ^ j' = pp at j3
      refine ⟨gap_in (j := j') hL hf hp B.m1 B.o1 h1 g1 (by omega) B.e1 j2 (by rw [bh, hpp]; omega) (by omega), gap_in (j := j') hL hf hp B.m2 B.o2 h1 (by omega) g2 B.e2 j2 (by rw [bo, hpp]; omega) (by omega), fun z => (nomatch z.1), fun _ => by rw [bl]; omega⟩
end
def mostN (f k : Nat) : Nat := if k < 2 then k else 2 + (k - 2) / f
theorem mostN_mono {f k : Nat} : mostN f k ≤ mostN f (k + 1) := by
  unfold mostN
  by_cases h : k + 1 < 2
  · rw [if_pos h, if_pos (by omega)]; omega
  · rw [if_neg h]
    split
    · generalize (k + 1 - 2) / f = z
      omega
    · have := Nat.div_le_div_right (c := f) (show k - 2 ≤ k + 1 - 2 by omega)
      omega
theorem mostN_le {f k : Nat} : mostN f k ≤ k := by
  unfold mostN
  split
  · omega
  · have := Nat.div_le_self (k - 2) f
    omega
structure Grown (L f : Nat) (ms ts : List (List Nat)) : Prop where
  row : Row L ms ts
  gap : ∀ i, i ≤ ms.length → ∃ n, Gap L f ms.length (aheadO ms i) ms[i]? n
  len : ∀ m ∈ ms, m.length ≤ mostN f ms.length
theorem aheadO_setIn {ms : List (List Nat)} {i : Nat} {m : List Nat} (hi : i ≤ ms.length) (j : Nat) :
    aheadO (setIn ms i [m]) j = (if j ≤ i then aheadO ms j else if j = i + 1 then some m else aheadO ms (j - 1)) ∧ (setIn ms i [m])[j]? = (if j < i then ms[j]? else if j = i then some m else ms[j - 1]?) := by
  have at_ : ∀ j : Nat, (setIn ms i [m])[j]? = (if j < i then ms[j]? else if j = i then some m else ms[j - 1]?) := fun j => by
    unfold setIn
    rw [List.append_assoc]
    have hl : (ms.take i).length = i := by rw [List.length_take]; omega
    by_cases a : j < i
    · rw [if_pos a, List.getElem?_append_left (by omega), List.getElem?_take, if_pos a]
    · rw [if_neg a, List.getElem?_append_right (by omega), hl]
      by_cases b : j = i
      · subst b
        rw [if_pos rfl, Nat.sub_self]
        rfl
      · rw [if_neg b, show j - i = (j - i - 1) + 1 by omega, List.singleton_append, List.getElem?_cons_succ, List.getElem?_drop]
        congr 1
        omega
  refine ⟨?_, at_ j⟩
  unfold aheadO
  rw [at_ (j - 1)]
  by_cases a : j = 0
  · subst a
    simp
  · rw [if_neg a]
    by_cases b : j ≤ i
    · rw [if_pos b, if_pos (by omega), if_neg a]
    · rw [if_neg b, if_neg (by omega)]
      by_cases c : j = i + 1
      · rw [if_pos c, if_pos (by omega)]
      · rw [if_neg c, if_neg (by omega), if_neg (by omega)]
theorem Grown.put {L f i n w : Nat} {ms ts : List (List Nat)} {m t : List Nat} (hf : 1 ≤ f) (hp : 2 ^ f ≤ L) (G : Grown L f ms ts) (hk : ts.length ≤ 298) (hi : i ≤ ms.length) (F : Found L (endsL L 1 0) (aheadO ms i) ms[i]? n w m) : Grown L f (setIn ms i [m]) (setIn ts i [t]) := by
  have R := G.row
  have hL := R.l2
  have hlen := R.len
  obtain ⟨mo, ok⟩ := R.near i
  obtain ⟨a1, a2, a3, a4⟩ := F.all hL mo ok
  obtain ⟨n1, g1⟩ := G.gap i hi
  have lm : ∀ o : Option (List Nat), (∀ m, o = some m → m ∈ ms) → lenO o ≤ ms.length := fun o h => by
    cases o with
    | none => exact Nat.zero_le _
    | some m => exact Nat.le_trans (G.len m (h m rfl)) mostN_le
  have l1 : lenO (aheadO ms i) ≤ ms.length := lm _ fun m e => by
    unfold aheadO at e
    split at e
    · cases e
    · exact List.mem_of_getElem? e
  have l2 : lenO ms[i]? ≤ ms.length := lm _ fun m e => List.mem_of_getElem? e
  have hn1 : n1 ≤ 1000 := by
    have e := (g1.least.at_num hL mo ok F).1
    have hE := ends_ok (K := L) (h := 1) (j := 0) (by decide) (by omega)
    have := F.least.len1 hL hE mo ok
    omega
  obtain ⟨s1, s2, s3, s4⟩ := g1.step hL hf hp mo ok hn1 F
  have ml : (setIn ms i [m]).length = ms.length + 1 := by rw [len_setIn hi]; rfl
  refine ⟨R.puts (by omega) rfl (by simp only [List.length_cons, List.length_nil]; omega) ?_ (List.pairwise_singleton _ _) ?_ ?_, fun j hj => ?_, fun z hz => ?_⟩
  · intro z hz; rw [List.mem_singleton.mp hz]; exact ⟨a1, by omega⟩
  · intro z hz; rw [List.mem_singleton.mp hz]; exact a3
  · intro z hz; rw [List.mem_singleton.mp hz]; exact a4
  · obtain ⟨e1, e2⟩ := aheadO_setIn (m := m) hi j
    rw [ml] at hj ⊢
    rw [e1, e2]
    by_cases z1 : j < i
    · rw [if_pos (by omega), if_pos z1]
      obtain ⟨n3, g3⟩ := G.gap j (by omega)
      exact ⟨n3, g3.more (.inr (by rw [List.getElem?_eq_getElem (by omega)]; simp))⟩
    · by_cases z2 : j = i
      · subst z2
        rw [if_pos (Nat.le_refl _), if_neg z1, if_pos rfl]
        exact s1
      · rw [if_neg (by omega), if_neg z1, if_neg z2]
        by_cases z3 : j = i + 1
        · subst z3
          rw [if_pos rfl, Nat.add_sub_cancel]
          exact s2
        · rw [if_neg z3]
          obtain ⟨n3, g3⟩ := G.gap (j - 1) (by omega)
          refine ⟨n3, g3.more (.inl ?_)⟩
          unfold aheadO
          rw [if_neg (by omega), List.getElem?_eq_getElem (by omega)]
          simp
  · rw [ml]
    rcases mem_setIn hz with h | h
    · exact Nat.le_trans (G.len z h) mostN_mono
    · rw [List.mem_singleton.mp h]
      by_cases hnn : aheadO ms i = none ∧ ms[i]? = none
      · have := s3 hnn
        rw [this]
        unfold mostN
        generalize (ms.length + 1 - 2) / f = z
        split <;> omega
      · have h4 := s4 hnn
        have hpos : 0 < ms.length := by
          rcases Nat.eq_zero_or_pos ms.length with z | z
          · exfalso
            have : ms = [] := List.length_eq_zero_iff.mp z
            subst this
            refine hnn ⟨?_, by simp⟩
            unfold aheadO
            split <;> simp
          · exact z
        unfold mostN
        rw [if_neg (by omega)]
        rcases Nat.lt_or_ge m.length 2 with y | y
        · generalize (ms.length + 1 - 2) / f = z
          omega
        · obtain ⟨d, hd⟩ : ∃ d, m.length = 2 + d := ⟨m.length - 2, by omega⟩
          rw [hd] at h4 ⊢
          have : d ≤ (ms.length + 1 - 2) / f := by
            rw [Nat.le_div_iff_mul_le (by omega)]
            rw [Nat.mul_add, Nat.mul_comm f 2, Nat.mul_comm f d] at h4
            omega
          omega
end L2
set_option Elab.async false
set_option linter.all false
set_option maxRecDepth 100000
set_option maxHeartbeats 4000000
namespace L2
open PySem PySem.Spec PyProof.Rows MM
def nextF (L : Nat) (m : List Nat) : List Nat := if val L m m.length + 1 < L ^ m.length then mk L (val L m m.length + 1) m.length else m ++ [98]
def nextB (L : Nat) (m : List Nat) : List Nat := if 1 < val L m m.length then mk L (val L m m.length - 1) m.length else m.dropLast ++ [97, 96 + L]
structure EndG (L k : Nat) (m : List Nat) (n w : Nat) : Prop where
  eq : m = low L w n
  own : w % L ≠ 0
  lt : w < L ^ n
  pos : 1 ≤ n
  emp : ∀ n', n = n' + 1 → 1 ≤ n' → hiN L none n' ≤ loN L (some m) n'
  cnt : k + (L ^ n - 1 - w) = 1 + (L - 1) / 2 + (n - 1) * (L - 1)
  rest : 2 ≤ n → L ^ n - 1 - w ≤ L - 2
  k1 : 1 ≤ k
structure FstG (L k : Nat) (m : List Nat) (n w : Nat) : Prop where
  eq : m = low L w n
  own : w % L ≠ 0
  lt : w < L ^ n
  pos : 1 ≤ n
  emp : ∀ n', n = n' + 1 → 1 ≤ n' → hiN L (some m) n' ≤ loN L none n'
  cnt : k + (w - 1) = 1 + (L - 2) / 2 + (n - 1) * (L - 1)
  rest : 2 ≤ n → w - 1 ≤ L - 2
  k1 : 1 ≤ k
theorem low_val_of {L w n : Nat} (hL : 0 < L) (h : w < L ^ n) : val L (low L w n) n = w := by rw [low_val_eq hL, Nat.mod_eq_of_lt h]
theorem fig_low_end (L w n : Nat) : fig (low L w n) n = 0 := by
  unfold fig
  rw [List.getElem?_eq_none (by rw [low_length]; exact Nat.le_refl _)]
theorem endC_div {d a r q : Nat} (h : a + r + 1 = q * d + d) (hr : r + 1 ≤ d) : a / d = q := by
  have hd : 0 < d := by omega
  rw [show a = (d - 1 - r) + q * d by omega, Nat.add_mul_div_right _ _ hd, Nat.div_eq_of_lt (by omega)]
  omega
theorem endC {L k s n r : Nat} (hL : 2 ≤ L) (hn : 1 ≤ n) (hk : 1 ≤ k) (c : k + r = 1 + s + (n - 1) * (L - 1)) (hr : 2 ≤ n → r ≤ L - 2) : endI L (s : Int) (k : Int) = (n : Int) := by
  unfold endI
  obtain ⟨n', rfl⟩ : ∃ n', n = n' + 1 := ⟨n - 1, by omega⟩
  rw [Nat.add_sub_cancel] at c
  cases n' with
  | zero =>
    rw [Nat.zero_mul] at c
    rw [if_pos (by omega)]
    rfl
  | succ q =>
    have hr := hr (by omega)
    rw [Nat.add_mul, Nat.one_mul] at c
    generalize hqd : q * (L - 1) = qd at c
    rw [if_neg (by omega)]
    have e : (k : Int) - 2 - (s : Int) = ((k - 2 - s : Nat) : Int) := by omega
    have e2 : (L : Int) - 1 = ((L - 1 : Nat) : Int) := by omega
    rw [e, e2, ← Int.natCast_ediv, endC_div (q := q) (r := r) (by rw [hqd]; omega) (by omega)]
    omega
section
variable {L k n w n2 w2 : Nat} {m m2 : List Nat}
theorem EndG.long (G : EndG L k m n w) (hL : 2 ≤ L) : endI L (((L : Int) - 1) / 2) (k : Int) = (m.length : Int) := by
  have := endC (s := (L - 1) / 2) hL G.pos G.k1 G.cnt G.rest
  rw [G.eq, low_length, ← this]
  congr 1
  omega
theorem FstG.long (G : FstG L k m n w) (hL : 2 ≤ L) : endI L (((L : Int) - 2) / 2) (k : Int) = (m.length : Int) := by
  have := endC (s := (L - 2) / 2) hL G.pos G.k1 G.cnt G.rest
  rw [G.eq, low_length, ← this]
  congr 1
  omega
theorem found_own {lo hi : Option (List Nat)} (hL : 2 ≤ L) (F : Found L (endsL L 1 0) lo hi n2 w2 m2) : w2 % L ≠ 0 := (own_all (by omega)).mp F.own
theorem EndG.step (G : EndG L k m n w) (hL : 2 ≤ L) (M : MarksOk L (some m) none) (ok : OkLH (some m) none) (hn : n ≤ 900) (F : Found L (endsL L 1 0) (some m) none n2 w2 m2) : EndG L (k + 1) m2 n2 w2 ∧ m2 = nextF L m ∧ m < m2 := by
  have hL0 : 0 < L := by omega
  have hlen : m.length = n := by rw [G.eq, low_length]
  have hv : val L m n = w := by rw [G.eq]; exact low_val_of hL0 G.lt
  have fz : fig m n = 0 := by rw [G.eq]; exact fig_low_end L w n
  have lo1 : loN L (some m) n = w + 1 := by show val L m n + 1 = w + 1; rw [hv]
  have hi1 : hiN L none n = L ^ n := rfl
  have glt := G.lt
  have cnt := G.cnt
  have hlt := (F.all hL M ok).2.2.1 m rfl
  have hw2 : w2 < L ^ n2 := Nat.lt_of_lt_of_le F.lt (ahead_le n2 hL0 M)
  refine ⟨?_, ?_, hlt⟩
  · rcases Nat.lt_or_ge (w + 1) (L ^ n) with z | z
    · have A := leastI_of hL M G.pos (by rw [lo1, hi1]; exact z) G.emp
      obtain ⟨rfl, e⟩ := A.at_num hL M ok F
      have e : w2 = w + 1 := e.trans lo1
      have B := A.halves hL M ok (by omega) F
      exact ⟨F.eq, found_own hL F, hw2, G.pos, B.e2, by omega, fun h => by have := G.rest h; omega, by omega⟩
    · obtain ⟨A, _⟩ := next_len hL M ok (by show m.length ≤ n; omega) (Nat.zero_le _) G.pos (by rw [lo1, hi1]; exact z)
      obtain ⟨rfl, e⟩ := A.at_num hL M ok F
      have e : w2 = val L m (n + 1) + 1 := e
      rw [val_succ, hv, fz, Nat.add_zero] at e
      have B := A.halves hL M ok (by omega) F
      have hpow : L ^ (n + 1) = L ^ n * L := Nat.pow_succ ..
      have hz : w + 1 = L ^ n := by omega
      rw [← hz, Nat.add_mul, Nat.one_mul] at hpow
      have hn1 := G.pos
      have hr : L ^ (n + 1) - 1 - w2 = L - 2 := by omega
      refine ⟨F.eq, found_own hL F, hw2, by omega, B.e2, ?_, fun _ => by omega, by omega⟩
      rw [hr]
      obtain ⟨n', rfl⟩ : ∃ n', n = n' + 1 := ⟨n - 1, by omega⟩
      rw [Nat.add_sub_cancel] at cnt ⊢
      rw [Nat.add_mul, Nat.one_mul]
      omega
  · unfold nextF
    rw [hlen, hv]
    rcases Nat.lt_or_ge (w + 1) (L ^ n) with z | z
    · rw [if_pos z]
      have A := leastI_of hL M G.pos (by rw [lo1, hi1]; exact z) G.emp
      have e := A.found hL M ok F
      have e2 : numI L (some m) none n = w + 1 := lo1
      rw [e2] at e
      exact e
    · rw [if_neg (by omega)]
      obtain ⟨A, _⟩ := next_len hL M ok (by show m.length ≤ n; omega) (Nat.zero_le _) G.pos (by rw [lo1, hi1]; exact z)
      obtain ⟨rfl, e⟩ := A.at_num hL M ok F
      have e : w2 = val L m (n + 1) + 1 := e
      rw [val_succ, hv, fz, Nat.add_zero] at e
      rw [F.eq, e, low_snoc hL0 (show 1 < L by omega), ← G.eq]
theorem FstG.step (G : FstG L k m n w) (hL : 2 ≤ L) (M : MarksOk L none (some m)) (ok : OkLH none (some m)) (hn : n ≤ 900) (F : Found L (endsL L 1 0) none (some m) n2 w2 m2) : FstG L (k + 1) m2 n2 w2 ∧ m2 = nextB L m ∧ m2 < m := by
  have hL0 : 0 < L := by omega
  have hlen : m.length = n := by rw [G.eq, low_length]
  have hv : val L m n = w := by rw [G.eq]; exact low_val_of hL0 G.lt
  have fz : fig m n = 0 := by rw [G.eq]; exact fig_low_end L w n
  have lo1 : ∀ n, loN L none n = 1 := fun n => by show valO L none n + 1 = 1; simp [valO]
  have hi1 : hiN L (some m) n = w := by
    show (if n < m.length then val L m n + 1 else val L m n) = w
    rw [if_neg (by omega), hv]
  have hi2 : hiN L (some m) (n + 1) = w * L := by
    show (if n + 1 < m.length then val L m (n + 1) + 1 else val L m (n + 1)) = w * L
    rw [if_neg (by omega), val_succ, hv, fz, Nat.add_zero]
  have w0 : 1 ≤ w := by
    rcases Nat.eq_zero_or_pos w with z | z
    · exact absurd (by rw [z, Nat.zero_mod]) G.own
    · exact z
  have cnt := G.cnt
  have hlt := (F.all hL M ok).2.2.2 m rfl
  have hw2 : w2 < L ^ n2 := Nat.lt_of_lt_of_le F.lt (ahead_le n2 hL0 M)
  refine ⟨?_, ?_, hlt⟩
  · rcases Nat.lt_or_ge 1 w with z | z
    · have A := leastI_of hL M G.pos (by rw [lo1, hi1]; exact z) G.emp
      obtain ⟨rfl, e⟩ := A.at_num hL M ok F
      have e : w2 = hiN L (some m) n2 - 1 := e
      rw [hi1] at e
      have B := A.halves hL M ok (by omega) F
      exact ⟨F.eq, found_own hL F, hw2, G.pos, B.e1, by omega, fun h => by have := G.rest h; omega, by omega⟩
    · obtain rfl : w = 1 := by omega
      obtain ⟨A, _⟩ := next_len hL M ok (Nat.zero_le _) (by show m.length ≤ n; omega) G.pos (by rw [lo1, hi1]; omega)
      obtain ⟨rfl, e⟩ := A.at_num hL M ok F
      have e : w2 = hiN L (some m) (n + 1) - 1 := e
      rw [hi2, Nat.one_mul] at e
      have B := A.halves hL M ok (by omega) F
      have hn1 := G.pos
      refine ⟨F.eq, found_own hL F, hw2, by omega, B.e1, ?_, fun _ => by omega, by omega⟩
      obtain ⟨n', rfl⟩ : ∃ n', n = n' + 1 := ⟨n - 1, by omega⟩
      rw [Nat.add_sub_cancel] at cnt ⊢
      rw [Nat.add_mul, Nat.one_mul]
      omega
  · unfold nextB
    rw [hlen, hv]
    rcases Nat.lt_or_ge 1 w with z | z
    · rw [if_pos z]
      have A := leastI_of hL M G.pos (by rw [lo1, hi1]; exact z) G.emp
      have e := A.found hL M ok F
      have e2 : numI L none (some m) n = w - 1 := by show hiN L (some m) n - 1 = w - 1; rw [hi1]
      rw [e2] at e
      exact e
    · obtain rfl : w = 1 := by omega
      rw [if_neg (by omega)]
      obtain ⟨A, _⟩ := next_len hL M ok (Nat.zero_le _) (by show m.length ≤ n; omega) G.pos (by rw [lo1, hi1]; omega)
      obtain ⟨rfl, e⟩ := A.at_num hL M ok F
      have e3 : w2 = hiN L (some m) (n + 1) - 1 := e
      rw [hi2, Nat.one_mul] at e3
      clear e
      obtain ⟨n', rfl⟩ : ∃ n', n = n' + 1 := ⟨n - 1, by have := G.pos; omega⟩
      have l1 : low L 1 (n' + 1) = low L 0 n' ++ [98] := by
        have := low_snoc hL0 (show 1 < L by omega) 0 n'
        rw [Nat.zero_mul] at this
        exact this
      have l0 : low L 0 (n' + 1) = low L 0 n' ++ [97] := by
        have := low_snoc hL0 (show 0 < L by omega) 0 n'
        rw [Nat.zero_mul] at this
        exact this
      have l2 : low L (L - 1) (n' + 1 + 1) = low L 0 (n' + 1) ++ [97 + (L - 1)] := by
        have := low_snoc hL0 (show L - 1 < L by omega) 0 (n' + 1)
        rw [Nat.zero_mul, Nat.zero_add] at this
        exact this
      rw [F.eq, e3, l2, l0, G.eq, l1, List.dropLast_concat, List.append_assoc, show 97 + (L - 1) = 96 + L by omega]
      rfl
end
end L2
set_option Elab.async false
set_option linter.all false
set_option maxRecDepth 100000
set_option maxHeartbeats 4000000
namespace L2
open PySem PySem.Spec PyProof.Rows MM
structure Stem (L : Nat) (lo hi : Option (List Nat)) (n w : Nat) (m : List Nat) : Prop where
  least : LeastB false L (endsL L 1 0) lo hi 1 n
  eq : m = low L w n
  own : ow L (endsL L 1 0) w = true
  ge : valO L lo n + 1 ≤ w
  lt : w < highO L hi n
  at_ : (MM.ob L (endsL L 1 0) w : Int) = (MM.ob L (endsL L 1 0) (valO L lo n + 1) : Int) + (roomB false L (endsL L 1 0) lo hi n - 1) / 2
theorem lt_app {t : List Nat} : ∀ {l m : List Nat}, l < m → l < m ++ t
  | l, [], h => absurd h (List.not_lt_nil _)
  | [], c :: m, _ => by simp
  | a :: l, c :: m, h => by
    rw [List.cons_append, List.cons_lt_cons_iff]
    rcases List.cons_lt_cons_iff.mp h with z | ⟨z1, z2⟩
    · exact .inl z
    · exact .inr ⟨z1, lt_app z2⟩
theorem val_lt_app {K : Nat} (hK : 0 < K) {t : List Nat} : ∀ {x h : List Nat} (n : Nat), Ls K x → Ls K h → x.length = n → val K x n < val K h n → x ++ t < h ∧ h.take n ≠ x
  | [], h, n, _, _, e, hv => by
    obtain rfl : n = 0 := by simpa using e.symm
    rw [val_zero, val_zero] at hv
    omega
  | c :: x, [], n, _, _, _, hv => by rw [val_nil] at hv; omega
  | c :: x, d :: h, 0, _, _, e, _ => by simp at e
  | c :: x, d :: h, n + 1, hx, hh, e, hv => by
    rw [val_cons, val_cons, lt_parts (val_lt hK n hx.tail) (val_lt hK n hh.tail), (sub97 hx.head.1 hh.head.1).1, (sub97 hx.head.1 hh.head.1).2] at hv
    rw [List.cons_append, List.cons_lt_cons_iff, List.take_succ_cons]
    rcases hv with z | ⟨rfl, z⟩
    · exact ⟨.inl z, fun e => by have := (List.cons.inj e).1; omega⟩
    · obtain ⟨a, b⟩ := val_lt_app hK (t := t) n hx.tail hh.tail (by simpa using e) z
      exact ⟨.inr ⟨rfl, a⟩, fun e => b (List.cons.inj e).2⟩
theorem val_take (K : Nat) : ∀ (u : List Nat) (n : Nat), val K (u.take n) n = val K u n
  | u, 0 => by rw [val_zero, val_zero]
  | [], n + 1 => rfl
  | c :: u, n + 1 => by rw [List.take_succ_cons, val_cons, val_cons, val_take K u n]
section
variable {L n w : Nat} {lo hi : Option (List Nat)} {m : List Nat}
theorem high_le (hL : 0 < L) (M : MarksOk L lo hi) : highO L hi n ≤ L ^ n := by
  cases hi with
  | none => exact Nat.le_refl _
  | some u => exact Nat.le_of_lt (val_lt hL n (M.mhi u rfl).1.ls)
theorem Stem.all (S : Stem L lo hi n w m) (hL : 2 ≤ L) (M : MarksOk L lo hi) (ok : OkLH lo hi) :
    Mark L m ∧ m.length = n ∧ val L m n = w ∧ n ≤ 1 + max (lenO lo) (lenO hi) ∧ (∀ l, lo = some l → ∀ t, l < m ++ t) ∧ ∀ u, hi = some u → ∀ t, m ++ t < u ∧ u.take n ≠ m := by
  have hL0 : 0 < L := by omega
  have hw : w < L ^ n := Nat.lt_of_lt_of_le S.lt (high_le hL0 M)
  have hm : m.length = n := by rw [S.eq, low_length]
  have hv : val L m n = w := by rw [S.eq, low_val_eq hL0, Nat.mod_eq_of_lt hw]
  have h0 := (own_all hL0).mp S.own
  have hn1 := S.least.pos
  have hnl := S.least.len1 hL (ends_ok (K := L) (h := 1) (j := 0) (by decide) (by omega)) M ok
  have hls : Ls L m := by rw [S.eq]; exact low_ls hL0 _ _
  obtain ⟨n', rfl⟩ : ∃ n', n = n' + 1 := ⟨n - 1, by omega⟩
  refine ⟨⟨hls, fun c hc => ?_, fun z => by rw [z] at hm; simp at hm⟩, hm, hv, hnl, fun l e t => lt_app ?_, fun u e t => ?_⟩
  · rw [S.eq, low_last hL0] at hc
    have := Option.some.inj hc
    omega
  · rw [S.eq, low_iff hL0 hw h0 (M.mlo l e).1.ls]
    have := S.ge
    rw [e] at this
    exact this
  · refine val_lt_app hL0 (n' + 1) hls (M.mhi u e).1.ls hm ?_
    have := S.lt
    rw [e] at this
    rw [hv]
    exact this
def Begins (lo hi : Option (List Nat)) (n : Nat) : Prop := ∃ u, hi = some u ∧ n < u.length ∧ (u.take n).getLast? ≠ some 97 ∧ ∀ l, lo = some l → l < u.take n
structure StemsZ (L : Nat) (lo hi : Option (List Nat)) (n : Nat) (z : Int) : Prop where
  yes : Begins lo hi n → z = roomI L (endsL L 1 0) lo hi n - 1
  no : ¬ Begins lo hi n → z = roomI L (endsL L 1 0) lo hi n
theorem last_take {u : List Nat} {n' : Nat} (hL : 0 < L) (mu : Mark L u) (h : n' + 1 < u.length) : (u.take (n' + 1)).getLast? = some (97 + val L u (n' + 1) % L) := by
  have hl : (u.take (n' + 1)).length = n' + 1 := by rw [List.length_take]; omega
  have hc := mu.ls u[n'] (List.getElem_mem (by omega))
  rw [List.getLast?_eq_getElem?, hl, Nat.add_sub_cancel, List.getElem?_take, if_pos (by omega), List.getElem?_eq_getElem (by omega), val_succ, Nat.mul_comm, Nat.mul_add_mod]
  have e : fig u n' = u[n'] - 97 := by unfold fig; rw [List.getElem?_eq_getElem (by omega)]
  rw [e, Nat.mod_eq_of_lt (by omega)]
  congr 1
  omega
theorem take_mark {u : List Nat} (mu : Mark L u) (hn : 1 ≤ n) (h : n < u.length) (hl : (u.take n).getLast? ≠ some 97) : Mark L (u.take n) :=
  ⟨mu.ls.sub fun c hc => List.mem_of_mem_take hc, fun c hc e => hl (by rw [hc, e]), fun e => by have h2 := congrArg List.length e; rw [List.length_take, List.length_nil] at h2; omega⟩
theorem begins_lt {l u : List Nat} (hL : 0 < L) (ml : Mark L l) (mu : Mark L u) (hn : 1 ≤ n) (h : n < u.length) (hl : (u.take n).getLast? ≠ some 97) : l < u.take n ↔ val L l n < val L u n := by
  have mt := take_mark mu hn h hl
  rw [low_val hL n ml.ls mt.ls mt.na (by rw [List.length_take]; omega), val_take]
theorem StemsZ.is {z : Int} (S : StemsZ L lo hi n z) (hL : 2 ≤ L) (M : MarksOk L lo hi) (hn : 1 ≤ n) (hv : valO L lo n < highO L hi n) : z = roomB false L (endsL L 1 0) lo hi n := by
  have hL0 : 0 < L := by omega
  have E := ends_ok (K := L) (h := 1) (j := 0) (by decide) (by omega)
  cases hi with
  | none => exact S.no fun ⟨u, e, _⟩ => nomatch e
  | some u =>
    have mu := (M.mhi u rfl).1
    have hv : valO L lo n < val L u n := hv
    have e1 : roomI L (endsL L 1 0) lo (some u) n = (MM.ob L (endsL L 1 0) (if n < u.length then val L u n + 1 else val L u n) : Nat) - (MM.ob L (endsL L 1 0) (valO L lo n + 1) : Nat) := rfl
    have e2 : roomB false L (endsL L 1 0) lo (some u) n = (MM.ob L (endsL L 1 0) (val L u n) : Nat) - (MM.ob L (endsL L 1 0) (valO L lo n + 1) : Nat) := rfl
    by_cases c : n < u.length
    · rw [if_pos c, ob_succ hL0 E] at e1
      obtain ⟨n', rfl⟩ : ∃ n', n = n' + 1 := ⟨n - 1, by omega⟩
      have lt := last_take hL0 mu c
      by_cases d : val L u (n' + 1) % L = 0
      · have no : ¬ Begins lo (some u) (n' + 1) := fun ⟨u', e, _, h, _⟩ => by
          cases e
          rw [lt, d] at h
          exact h rfl
        rw [if_neg (fun z => (own_all hL0).mp z d)] at e1
        rw [S.no no, e1, e2]
        omega
      · have hl : (u.take (n' + 1)).getLast? ≠ some 97 := fun e => by
          rw [lt] at e
          have := Option.some.inj e
          omega
        have yes : Begins lo (some u) (n' + 1) := ⟨u, rfl, c, hl, fun l e => (begins_lt hL0 (M.mlo l e).1 mu hn c hl).mpr (by rw [e] at hv; exact hv)⟩
        rw [if_pos ((own_all hL0).mpr d)] at e1
        rw [S.yes yes, e1, e2]
        omega
    · rw [if_neg c] at e1
      rw [S.no fun ⟨u', e, h, _⟩ => by cases e; exact c h, e1, e2]
theorem StemsZ.small {z : Int} (S : StemsZ L lo hi n z) (hL : 2 ≤ L) (M : MarksOk L lo hi) (ok : OkLH lo hi) (hn : 1 ≤ n) (h : roomB false L (endsL L 1 0) lo hi n < 1) : z ≤ 0 := by
  have hL0 : 0 < L := by omega
  have E := ends_ok (K := L) (h := 1) (j := 0) (by decide) (by omega)
  rcases Nat.lt_or_ge (valO L lo n) (highO L hi n) with g | g
  · rw [S.is hL M hn g]
    omega
  · have le : hiN L hi n ≤ loN L lo n := by
      show aheadN hi (highO L hi n) n ≤ valO L lo n + 1
      cases hi with
      | none => exact Nat.le_succ_of_le g
      | some u =>
        have g : val L u n ≤ valO L lo n := g
        show (if n < u.length then val L u n + 1 else val L u n) ≤ _
        split <;> omega
    have mono := ob_mono hL0 E le
    have r : roomI L (endsL L 1 0) lo hi n ≤ 0 := by
      show ((MM.ob L (endsL L 1 0) (hiN L hi n) : Nat) : Int) - ((MM.ob L (endsL L 1 0) (loN L lo n) : Nat) : Int) ≤ 0
      omega
    by_cases b : Begins lo hi n
    · rw [S.yes b]; omega
    · rw [S.no b]; exact r
end
def spStem (c : Addr) : Sp := fun vs H Q E => ∃ (L : Nat) (lo hi : Option (List Nat)), vs = [.int L, oV lo, oV hi] ∧ 2 ≤ L ∧ L ≤ 26 ∧ MarksOk L lo hi ∧ (OkLH lo hi → ∀ H' n w m, Same H H' → Stem L lo hi n w m → Q (.str (txt m)) H') ∧ (¬ OkLH lo hi → E (.ref c) none H)
def rdStem (c : Addr) (E : XK) : TS :=
    tSeq (tDrop (tCall (spAskRoom c) [] E (tCons (tVar 1) (tCons (tVar 2) tNil))))
      (tSeq (tAsg (tCall spEnds [] E0 (tCons (tVar 0) (tCons (tC (.int 1)) (tCons (tC (.int 0)) tNil)))) (gName 3))
      (tSeq (tAsg (tCall spLeastC [] E0 (tCons (tVar 0) (tCons (tVar 3) (tCons (tVar 1) (tCons (tVar 2) (tCons (tC (.int 1)) (tCons (tC (.bl false)) tNil))))))) (gName 4))
      (tSeq (tAsg (tCall spCounted [] E0 (tCons (tVar 0) (tCons (tVar 3) (tCons (tVar 1) (tCons (tVar 2) (tCons (tVar 4) (tCons (tC (.bl false)) tNil))))))) (gName 5))
      (tRet (tCall (spNth c) [] E (tCons (tVar 0) (tCons (tC (.int 1)) (tCons (tC (.int 0)) (tCons (tVar 1) (tCons (tVar 2) (tCons (tVar 4) (tCons (tOp rDivI (tOp rSubI (tVar 5) (tC (.int 1))) (tC (.int 2))) tNil))))))))))))
theorem read_stem {c : Addr} {N : List Str} {vs : List V} {H : Hp} {Q : VK} {E : XK} (hN : N.length = 6) (h : spStem c vs H Q E) : rdStem c E { nx := fun _ H' => Q .non H', rt := Q } (L2.start N vs) H := by
  obtain ⟨L, lo, hi, rfl, hL, hL26, M, q1, q2⟩ := h
  unfold rdStem L2.start
  rw [hN]
  have hL0 : 0 < L := by omega
  obtain ⟨okl, okh⟩ := M.okO hL26
  have E1 := ends_ok (K := L) (h := 1) (j := 0) (by decide) (by omega)
  have hlen := M.lens
  and_intros
  refine ⟨lo, hi, rfl, fun ok => ?_, q2⟩
  and_intros
  refine ⟨L, 1, 0, rfl, hL26, by decide, fun H1 s1 => ?_⟩
  and_intros
  refine ⟨L, _, lo, hi, 1, false, rfl, hL, hL26, endsL_len hL26, E1, M, ok, by omega, by omega, fun H2 n s2 LN => ?_⟩
  have hn : n ≤ 1002 := by have := LN.len; omega
  and_intros
  refine ⟨L, _, lo, hi, n, false, rfl, hL0, hL26, endsL_len hL26, okl, okh, by omega, fun H3 s3 => ?_⟩
  and_intros
  have r1 := LN.room
  obtain ⟨k, hk⟩ := Int.eq_ofNat_of_zero_le (a := (roomB false L (endsL L 1 0) lo hi n - 1) / 2) (by omega)
  refine ⟨cdiv (by decide) (by decide), L, 1, 0, lo, hi, n, k, by rw [hk]; rfl, M.roomIn (hand1 hL hL26) (by omega), by decide, by omega, fun _ H4 s4 => ?_, fun z => absurd ok z⟩
  have q := q1 ok H4 n (nth L (endsL L 1 0) (MM.ob L (endsL L 1 0) (valO L lo n + 1) + k)) (low L (nth L (endsL L 1 0) (MM.ob L (endsL L 1 0) (valO L lo n + 1) + k)) n) (((s1.trans s2).trans s3).trans s4)
  obtain ⟨n', rfl⟩ : ∃ n', n = n' + 1 := ⟨n - 1, by have := LN.pos; omega⟩
  rw [mk_low hL0 (nth_mod E1 _)]
  obtain ⟨o1, o2⟩ := ob_nth hL0 E1 (MM.ob L (endsL L 1 0) (valO L lo (n' + 1) + 1) + k)
  have hri : roomB false L (endsL L 1 0) lo hi (n' + 1) = (MM.ob L (endsL L 1 0) (highO L hi (n' + 1)) : Nat) - (MM.ob L (endsL L 1 0) (valO L lo (n' + 1) + 1) : Nat) := rfl
  obtain ⟨i1, i2⟩ := nth_in hL0 E1 (A := valO L lo (n' + 1) + 1) (B := highO L hi (n' + 1)) (p := MM.ob L (endsL L 1 0) (valO L lo (n' + 1) + 1) + k) (by omega) (by omega)
  exact q ⟨LN, rfl, o2, i1, i2, by rw [o1, hk]; omega⟩
end L2
set_option Elab.async false
set_option linter.all false
set_option maxRecDepth 100000
set_option maxHeartbeats 4000000
namespace L2
open PySem PySem.Spec PyProof.Rows MM
abbrev RwN := List Nat × Option (List Nat)
def rowP (r : RwN) : V × V := (strV r.1, oV r.2)
def firstN (R : List RwN) : Option (List Nat) := R.findSome? (·.2)
def isBel (m : List Nat) (r : RwN) : Bool := decide (r.1 < m)
def lowN (R : List RwN) (m : List Nat) : Option (List Nat) := firstN (R.reverse.filter (isBel m))
def highN (R : List RwN) (m : List Nat) : Option (List Nat) := firstN (R.filter fun r => !isBel m r)
structure RowsOk (L : Nat) (R : List RwN) : Prop where
  up : R.Pairwise fun a b => a.1 < b.1
  olds : ∀ r ∈ R, Mark L r.1 ∧ r.1.length ≤ 500
  news : R.Pairwise fun a b => ∀ x y, a.2 = some x → b.2 = some y → x < y
  marks : ∀ r ∈ R, ∀ n, r.2 = some n → Mark L n ∧ n.length ≤ 500
  len : R.length ≤ 10000
theorem ll_lt_le {a b c : List Nat} (h : a < b) (g : ¬ c < b) : a < c := by
  rcases Nat.lt_or_ge 0 1 with _ | z
  · by_cases z : a < c
    · exact z
    · exact absurd (List.lt_of_le_of_lt (List.not_lt.mp z) h) g
  · omega
theorem firstN_cons (r : RwN) (R : List RwN) : firstN (r :: R) = match r.2 with | some x => some x | none => firstN R := by
  unfold firstN
  rw [List.findSome?_cons]
  cases r.2 <;> rfl
theorem firstN_mem {R : List RwN} {x : List Nat} (h : firstN R = some x) : ∃ r ∈ R, r.2 = some x := by
  obtain ⟨r, hr, e⟩ := List.exists_of_findSome?_eq_some h
  exact ⟨r, hr, e⟩
theorem firstN_min {S : List Nat → List Nat → Prop} : ∀ {R : List RwN}, R.Pairwise (fun a b => ∀ x y, a.2 = some x → b.2 = some y → S x y) → ∀ {r : RwN} {x : List Nat}, r ∈ R → r.2 = some x → ∃ y, firstN R = some y ∧ (y = x ∨ S y x)
  | [], _, _, _, h, _ => nomatch h
  | a :: R, hp, r, x, h, e => by
    rw [List.pairwise_cons] at hp
    rw [firstN_cons]
    cases ea : a.2 with
    | some z =>
      refine ⟨z, rfl, ?_⟩
      rcases List.mem_cons.mp h with rfl | h
      · rw [ea] at e; injection e with e; exact .inl e
      · exact .inr (hp.1 r h z x ea e)
    | none =>
      rcases List.mem_cons.mp h with rfl | h
      · rw [ea] at e; cases e
      · exact firstN_min hp.2 h e
theorem firstN_filter {p q : RwN → Bool} : ∀ {R : List RwN}, (∀ r ∈ R, r.2 ≠ none → p r = q r) → firstN (R.filter p) = firstN (R.filter q)
  | [], _ => rfl
  | a :: R, h => by
    have ih := firstN_filter (p := p) (q := q) (R := R) fun r hr => h r (List.mem_cons_of_mem _ hr)
    cases ea : a.2 with
    | some z =>
      have e := h a List.mem_cons_self (by rw [ea]; simp)
      cases hq : q a with
      | true => rw [List.filter_cons_of_pos (by rw [e, hq]), List.filter_cons_of_pos hq, firstN_cons, firstN_cons, ea]
      | false => rw [List.filter_cons_of_neg (by rw [e, hq]; decide), List.filter_cons_of_neg (by rw [hq]; decide)]; exact ih
    | none =>
      have k : ∀ f : RwN → Bool, firstN ((a :: R).filter f) = firstN (R.filter f) := fun f => by
        cases hf : f a with
        | true => rw [List.filter_cons_of_pos hf, firstN_cons, ea]
        | false => rw [List.filter_cons_of_neg (by rw [hf]; decide)]
      rw [k, k]
      exact ih
variable {L : Nat} {R : List RwN}
theorem rows_at {T : RwN → RwN → Prop} (h : R.Pairwise T) {r s : RwN} (hr : r ∈ R) (hs : s ∈ R) : r = s ∨ T r s ∨ T s r := by
  obtain ⟨i, hi, rfl⟩ := List.mem_iff_getElem.mp hr
  obtain ⟨j, hj, rfl⟩ := List.mem_iff_getElem.mp hs
  rw [List.pairwise_iff_getElem] at h
  rcases Nat.lt_trichotomy i j with z | z | z
  · exact .inr (.inl (h i j hi hj z))
  · subst z; exact .inl rfl
  · exact .inr (.inr (h j i hj hi z))
theorem RowsOk.rise (O : RowsOk L R) {r s : RwN} {x y : List Nat} (hr : r ∈ R) (hs : s ∈ R) (h : r.1 < s.1) (hx : r.2 = some x) (hy : s.2 = some y) : x < y := by
  have both := O.up.and O.news
  rcases rows_at both hr hs with e | ⟨_, e⟩ | ⟨e, _⟩
  · subst e; exact absurd h (List.lt_irrefl _)
  · exact e x y hx hy
  · exact absurd (List.lt_trans h e) (List.lt_irrefl _)
theorem RowsOk.one (O : RowsOk L R) {r s : RwN} (hr : r ∈ R) (hs : s ∈ R) (h : r.1 = s.1) : r = s := by
  rcases rows_at O.up hr hs with e | e | e
  · exact e
  · rw [h] at e; exact absurd e (List.lt_irrefl _)
  · rw [h] at e; exact absurd e (List.lt_irrefl _)
theorem lowN_mem {m x : List Nat} (h : lowN R m = some x) : ∃ r ∈ R, r.1 < m ∧ r.2 = some x := by
  obtain ⟨r, hr, e⟩ := firstN_mem h
  obtain ⟨h1, h2⟩ := List.mem_filter.mp hr
  exact ⟨r, List.mem_reverse.mp h1, of_decide_eq_true h2, e⟩
theorem highN_mem {m x : List Nat} (h : highN R m = some x) : ∃ r ∈ R, ¬ r.1 < m ∧ r.2 = some x := by
  obtain ⟨r, hr, e⟩ := firstN_mem h
  obtain ⟨h1, h2⟩ := List.mem_filter.mp hr
  refine ⟨r, h1, ?_, e⟩
  intro z
  rw [isBel, decide_eq_true z] at h2
  cases h2
theorem RowsOk.low (O : RowsOk L R) {m x : List Nat} {r : RwN} (hr : r ∈ R) (h : r.1 < m) (e : r.2 = some x) : ∃ y, lowN R m = some y ∧ (y = x ∨ x < y) := by
  refine firstN_min (S := fun a b => b < a) ?_ (List.mem_filter.mpr ⟨List.mem_reverse.mpr hr, decide_eq_true h⟩) e
  refine List.Pairwise.filter _ ?_
  rw [List.pairwise_reverse]
  exact O.news.imp fun h x y hx hy => h y x hy hx
theorem RowsOk.high (O : RowsOk L R) {m x : List Nat} {r : RwN} (hr : r ∈ R) (h : ¬ r.1 < m) (e : r.2 = some x) : ∃ y, highN R m = some y ∧ (y = x ∨ y < x) :=
  firstN_min (S := fun a b => a < b) (List.Pairwise.filter _ O.news) (List.mem_filter.mpr ⟨hr, by rw [isBel, decide_eq_false h]; rfl⟩) e
theorem RowsOk.marksOk (O : RowsOk L R) (m : List Nat) : MarksOk L (lowN R m) (highN R m) where
  mlo := fun x h => by obtain ⟨r, hr, _, e⟩ := lowN_mem h; have := O.marks r hr x e; exact ⟨this.1, by omega⟩
  mhi := fun x h => by obtain ⟨r, hr, _, e⟩ := highN_mem h; have := O.marks r hr x e; exact ⟨this.1, by omega⟩
theorem RowsOk.okLH (O : RowsOk L R) (m : List Nat) : OkLH (lowN R m) (highN R m) := fun x y hx hy => by
  obtain ⟨r, hr, h1, e1⟩ := lowN_mem hx
  obtain ⟨s, hs, h2, e2⟩ := highN_mem hy
  exact O.rise hr hs (ll_lt_le h1 h2) e1 e2
theorem RowsOk.lens (O : RowsOk L R) (m : List Nat) : lenO (lowN R m) ≤ 500 ∧ lenO (highN R m) ≤ 500 := by
  constructor
  · cases h : lowN R m with
    | none => exact Nat.zero_le _
    | some x => obtain ⟨r, hr, _, e⟩ := lowN_mem h; exact (O.marks r hr x e).2
  · cases h : highN R m with
    | none => exact Nat.zero_le _
    | some x => obtain ⟨r, hr, _, e⟩ := highN_mem h; exact (O.marks r hr x e).2
theorem Stem.one {lo hi : Option (List Nat)} {n w n' w' : Nat} {m m' : List Nat} (hL : 2 ≤ L) (A : Stem L lo hi n w m) (B : Stem L lo hi n' w' m') : m = m' := by
  have E : MM.Ends L (endsL L 1 0) := ends_ok (K := L) (h := 1) (j := 0) (by decide) (by omega)
  obtain rfl := A.least.one B.least
  have h1 := A.at_
  have h2 := B.at_
  have hw : w = w' := by
    rcases Nat.lt_trichotomy w w' with z | z | z
    · have := ob_mono (by omega) E (show w + 1 ≤ w' by omega)
      have := ob_succ (by omega) E w
      rw [A.own] at this
      simp at this
      omega
    · exact z
    · have := ob_mono (by omega) E (show w' + 1 ≤ w by omega)
      have := ob_succ (by omega) E w'
      rw [B.own] at this
      simp at this
      omega
  subst hw
  rw [A.eq, B.eq]
def Car (L : Nat) (R : List RwN) (m : List Nat) (v : Option (List Nat)) : Prop := (∃ r ∈ R, r.1 = m ∧ v = r.2) ∨ ((∀ r ∈ R, r.1 ≠ m) ∧ ∃ n w s, Stem L (lowN R m) (highN R m) n w s ∧ v = some (s ++ m))
theorem Car.one (O : RowsOk L R) (hL : 2 ≤ L) {m : List Nat} {v v' : Option (List Nat)} (A : Car L R m v) (B : Car L R m v') : v = v' := by
  rcases A with ⟨r, hr, e, rfl⟩ | ⟨h1, n, w, s, S, rfl⟩ <;> rcases B with ⟨r', hr', e', rfl⟩ | ⟨h2, n', w', s', S', rfl⟩
  · rw [O.one hr hr' (e.trans e'.symm)]
  · exact absurd e (h2 r hr)
  · exact absurd e' (h1 r' hr')
  · rw [S.one hL S']
theorem Car.len (O : RowsOk L R) (hL : 2 ≤ L) {m x : List Nat} (M : Mark L m) (A : Car L R m (some x)) : Mark L x ∧ x.length ≤ 501 + m.length := by
  rcases A with ⟨r, hr, e, h⟩ | ⟨h1, n, w, s, S, h⟩
  · have := O.marks r hr x h.symm
    exact ⟨this.1, by omega⟩
  · injection h with h
    subst h
    obtain ⟨a1, a2, a3, a4, _⟩ := S.all hL (O.marksOk m) (O.okLH m)
    have := O.lens m
    exact ⟨⟨a1.ls.app M.ls, Na.app M.na M.ne, by simp [M.ne]⟩, by rw [List.length_append]; omega⟩
theorem app_lt (s : List Nat) {a b : List Nat} (h : a < b) : s ++ a < s ++ b := by
  induction s with
  | nil => exact h
  | cons c s ih => rw [List.cons_append, List.cons_append, List.cons_lt_cons_iff]; exact .inr ⟨rfl, ih⟩
theorem Car.rise (O : RowsOk L R) (hL : 2 ≤ L) {m1 m2 v1 v2 : List Nat} (h : m1 < m2) (A : Car L R m1 (some v1)) (B : Car L R m2 (some v2)) : v1 < v2 := by
  have le : ∀ {a b c : List Nat}, (a = b ∨ a < b) → b < c → a < c := fun h g => h.elim (fun e => e ▸ g) fun z => List.lt_trans z g
  have le2 : ∀ {a b c : List Nat}, a < b → (b = c ∨ b < c) → a < c := fun g h => h.elim (fun e => e ▸ g) fun z => List.lt_trans g z
  rcases A with ⟨r, hr, e, h1⟩ | ⟨n1, n, w, s, S, h1⟩ <;> rcases B with ⟨r', hr', e', h2⟩ | ⟨n2, n', w', s', S', h2⟩
  · exact O.rise hr hr' (by rw [e, e']; exact h) h1.symm h2.symm
  · injection h2 with h2
    subst h2
    obtain ⟨y, hy, q⟩ := O.low hr (m := m2) (by rw [e]; exact h) h1.symm
    obtain ⟨_, _, _, _, a5, _⟩ := S'.all hL (O.marksOk m2) (O.okLH m2)
    exact le (q.imp Eq.symm id) (a5 y hy m2)
  · injection h1 with h1
    subst h1
    obtain ⟨y, hy, q⟩ := O.high hr' (m := m1) (by rw [e']; exact fun z => List.lt_irrefl _ (List.lt_trans z h)) h2.symm
    obtain ⟨_, _, _, _, _, a6⟩ := S.all hL (O.marksOk m1) (O.okLH m1)
    exact le2 (a6 y hy m1).1 q
  · injection h1 with h1
    injection h2 with h2
    subst h1 h2
    obtain ⟨_, _, _, _, _, a6⟩ := S.all hL (O.marksOk m1) (O.okLH m1)
    obtain ⟨_, _, _, _, b5, _⟩ := S'.all hL (O.marksOk m2) (O.okLH m2)
    by_cases z : ∃ r ∈ R, ¬ r.1 < m1 ∧ r.1 < m2 ∧ r.2 ≠ none
    · obtain ⟨r, hr, z1, z2, z3⟩ := z
      obtain ⟨x, hx⟩ := Option.ne_none_iff_exists'.mp z3
      obtain ⟨y, hy, q⟩ := O.high hr (m := m1) z1 hx
      obtain ⟨y', hy', q'⟩ := O.low hr (m := m2) z2 hx
      exact List.lt_trans (le2 (a6 y hy m1).1 q) (le (q'.imp Eq.symm id) (b5 y' hy' m2))
    · have k : ∀ r ∈ R, r.2 ≠ none → isBel m1 r = isBel m2 r := fun r hr hn => by
        unfold isBel
        by_cases w1 : r.1 < m1
        · rw [decide_eq_true w1, decide_eq_true (List.lt_trans w1 h)]
        · by_cases w2 : r.1 < m2
          · exact absurd ⟨r, hr, w1, w2, hn⟩ z
          · rw [decide_eq_false w1, decide_eq_false w2]
      have e1 : lowN R m1 = lowN R m2 := firstN_filter fun r hr hn => k r (List.mem_reverse.mp hr) hn
      have e2 : highN R m1 = highN R m2 := firstN_filter fun r hr hn => by rw [k r hr hn]
      rw [e1, e2] at S
      rw [S.one hL S']
      exact app_lt s' h
end L2
set_option Elab.async false
set_option linter.all false
set_option maxRecDepth 100000
set_option maxHeartbeats 4000000
namespace L2
open PySem PySem.Spec PyProof.Rows MM
def AtRows (K : PySem.W.Frag) (H : Hp) (p : Addr) (R : List RwN) : Prop := ∃ xs, SqL K H p xs ∧ Prs H xs (R.map rowP)
theorem AtRows.same {K : PySem.W.Frag} {H H' : Hp} {p : Addr} {R : List RwN} (h : AtRows K H p R) (s : Same H H') : AtRows K H' p R := let ⟨xs, a, b⟩ := h; ⟨xs, s.seq a, b.same s⟩
theorem AtRows.get {K : PySem.W.Frag} {H : Hp} {p : Addr} {R : List RwN} (h : AtRows K H p R) {i : Nat} {r : RwN} (hi : R[i]? = some r) : ∃ xs t, SqL K H p xs ∧ xs[i]? = some (.ref t) ∧ SqT K H t [strV r.1, oV r.2] := by
  obtain ⟨xs, a, b⟩ := h
  have hl := b.len
  rw [List.length_map] at hl
  have hlt : i < R.length := (List.getElem?_eq_some_iff.mp hi).1
  obtain ⟨x, hx⟩ := some_at (l := xs) (i := i) (by omega)
  obtain ⟨q, t, e1, e2, e3⟩ := b.get hx
  rw [List.getElem?_map, hi] at e1
  cases e1
  subst e2
  exact ⟨xs, t, a, hx, SqT.of e3⟩
def spAheadR (K : PySem.W.Frag) : Sp := fun vs H Q _ => ∃ (p : Addr) (R : List RwN) (m : List Nat), vs = [.ref p, .str (txt m)] ∧ AtRows K H p R ∧ R.Pairwise (fun a b => a.1 < b.1) ∧ R.length ≤ 10000 ∧
  ∀ k, k ≤ R.length → (∀ r ∈ R.take k, r.1 < m) → (∀ r ∈ R.drop k, ¬ r.1 < m) → Q (.int (k : Nat)) H
def rdAheadR (K : PySem.W.Frag) : TS :=
    tSeq (tAsg (tC (.int 0)) (gName 2))
      (tSeq (tAsg (tCB (rLenL K) (tCons (tVar 0) tNil)) (gName 3))
      (tSeq (tWhile (tTest (tOp rLtI (tVar 2) (tVar 3))) (tSeq (tAsg (tOp rDivI (tOp rAddI (tVar 2) (tVar 3)) (tC (.int 2))) (gName 4))
      (tIfS (tTest (tOp rLtS (tOp (rIxT K) (tOp (rIxL K) (tVar 0) (tVar 4)) (tC (.int 0))) (tVar 1))) (tAsg (tOp rAddI (tVar 4) (tC (.int 1))) (gName 2)) (tAsg (tVar 4) (gName 3)))))
      (tRet (tVar 2))))
def AheadInv (p : Addr) (R : List RwN) (m : List Nat) (H : Hp) : Nat → St → Hp → Prop := fun c σ H' => ∃ (f l : Nat) (v4 : Option V), H' = H ∧ σ = [some (.ref p), some (.str (txt m)), some (.int f), some (.int l), v4] ∧ f ≤ l ∧ l ≤ R.length ∧ c = l - f ∧
  (∀ i r, R[i]? = some r → i < f → r.1 < m) ∧ ∀ i r, R[i]? = some r → l ≤ i → ¬ r.1 < m
theorem read_aheadR {K : PySem.W.Frag} {N : List Str} {vs : List V} {H : Hp} {Q : VK} {E : XK} (hN : N.length = 5) (h : spAheadR K vs H Q E) : rdAheadR K { nx := fun _ H' => Q .non H', rt := Q } (L2.start N vs) H := by
  obtain ⟨p, R, m, rfl, hA, up, hl, q⟩ := h
  unfold rdAheadR L2.start
  rw [hN]
  refine seq_set fun c hc => ?_
  and_intros
  refine hc _ _ ?_
  clear hc c
  refine seq_set fun c hc => ?_
  and_intros
  obtain ⟨xs, hq, hp⟩ := id hA
  have hxl := hp.len
  rw [List.length_map] at hxl
  refine lenL_go hq (hc _ _ ?_)
  clear hc c
  rw [hxl]
  refine seq_any fun c hc => ?_
  refine while_of (AheadInv p R m H) R.length ⟨0, R.length, none, rfl, rfl, Nat.zero_le _, Nat.le_refl _, rfl, fun i r _ h => absurd h (Nat.not_lt_zero _), fun i r e h => absurd (List.getElem?_eq_some_iff.mp e).1 (by omega)⟩ ?_
  rintro cc σ H' ⟨f, l, v4, rfl, rfl, h1, h2, rfl, h3, h4⟩ W hT hF
  and_intros
  by_cases z : (f : Int) < (l : Int)
  · rw [decide_eq_true z]
    refine hT _ ?_
    refine seq_set fun c2 hc2 => ?_
    and_intros
    refine ⟨cdiv (by decide) (by decide), hc2 _ _ ?_⟩
    clear hc2 c2
    rw [show ((f : Int) + (l : Int)) / 2 = (((f + l) / 2 : Nat) : Int) by omega]
    generalize hg : (f + l) / 2 = g
    obtain ⟨r, hr⟩ := some_at (l := R) (i := g) (by omega)
    obtain ⟨ys, t, b1, b2, b3⟩ := hA.get hr
    and_intros
    refine ixL_go b1 (by omega) (by rw [Int.toNat_natCast]; exact b2) ?_
    refine ixT_go (v := strV r.1) b3 (by decide) rfl ?_
    simp only [strV, tCompSet,tRaise,tIsi,tSeq,tAsg,gName,tOp,tUn,tVar,tC,tTest,tB,tIf,tIfS,tAnd,tOr,tNot,tAndV,tOrV,tNotV,tRet,tRetN,tNext,tDrop,tCB,tCons,tNil,tBM,tBM0,tCall,tLst,tTup,tSl,tPart,tNoPart,tIsN,tNotN,tYes,tBreak,tCont,rI0,rI,rU,rEq,rNe,L2.start,compSt,List.map_cons,List.map_nil,List.length_cons,List.length_nil,List.replicate_succ,List.replicate_zero,List.cons_append,List.nil_append,List.append_nil,List.getElem?_cons_zero,List.getElem?_cons_succ,List.set_cons_zero,List.set_cons_succ,Option.some.injEq,Option.join_some,V.int.injEq,V.str.injEq,V.bl.injEq,V.ref.injEq,txt_inj,exists_eq_left',exists_eq_left,exists_and_left,and_true,true_and,decide_eq_true_eq,reduceCtorEq,decide_false,decide_true,Bool.not_false,Bool.not_true,if_true,if_false,Bool.false_eq_true,Nat.reduceAdd,Nat.reduceSub,Bool.not_eq_true',decide_eq_false_iff_not,not_true_eq_false,not_false_eq_true]
    have gt : ∀ i r', R[i]? = some r' → g ≤ i → ¬ r.1 < m → ¬ r'.1 < m := fun i r' e hi hn hm => by
      rcases Nat.eq_or_lt_of_le hi with e2 | e2
      · subst e2; rw [hr] at e; cases e; exact hn hm
      · obtain ⟨a1, a2⟩ := List.getElem?_eq_some_iff.mp hr
        obtain ⟨a3, a4⟩ := List.getElem?_eq_some_iff.mp e
        have := List.pairwise_iff_getElem.mp up g i a1 a3 e2
        rw [a2, a4] at this
        exact hn (List.lt_trans this hm)
    have lt : ∀ i r', R[i]? = some r' → i < g + 1 → r.1 < m → r'.1 < m := fun i r' e hi hm => by
      rcases Nat.eq_or_lt_of_le (Nat.le_of_lt_succ hi) with e2 | e2
      · subst e2; rw [hr] at e; cases e; exact hm
      · obtain ⟨a1, a2⟩ := List.getElem?_eq_some_iff.mp hr
        obtain ⟨a3, a4⟩ := List.getElem?_eq_some_iff.mp e
        have := List.pairwise_iff_getElem.mp up i g a3 a1 e2
        rw [a2, a4] at this
        exact List.lt_trans this hm
    refine ⟨_, _, rfl, rfl, _, rfl, ?_⟩
    by_cases y : r.1 < m
    · rw [if_pos (decide_eq_true y)]
      exact ⟨_, show l - (g + 1) < l - f by omega, g + 1, l, _, rfl, rfl, by omega, h2, rfl, fun i r' e hi => lt i r' e hi y, h4⟩
    · rw [if_neg (by rw [decide_eq_false y]; decide)]
      exact ⟨_, show g - f < l - f by omega, f, g, _, rfl, rfl, by omega, by omega, rfl, h3, fun i r' e hi => gt i r' e hi y⟩
  · rw [decide_eq_false z]
    refine hF _ (hc _ _ ?_)
    and_intros
    have e : f = l := by omega
    subst e
    refine q f h2 (fun r hr => ?_) fun r hr => ?_
    · obtain ⟨i, hi, rfl⟩ := List.mem_iff_getElem.mp hr
      rw [List.length_take] at hi
      exact h3 i _ (by rw [List.getElem_take]; exact List.getElem?_eq_getElem (by omega)) (by omega)
    · obtain ⟨i, hi, rfl⟩ := List.mem_iff_getElem.mp hr
      rw [List.length_drop] at hi
      exact h4 (f + i) _ (by rw [List.getElem_drop]; exact List.getElem?_eq_getElem (by omega)) (by omega)
def spFirstN (K : PySem.W.Frag) : Sp := fun vs H Q _ => ∃ (p : Addr) (R : List RwN), vs = [.ref p] ∧ AtRows K H p R ∧ Q (oV (firstN R)) H
def rdFirstN (K : PySem.W.Frag) : TS :=
    tSeq (tFor (iList K (tVar 0)) (gTup K 2 (gCons (gName 1) (gCons (gName 2) gNil))) (tIfS (tB (tNotN (tVar 2))) (tRet (tVar 2)) (tNext)))
      (tRet (tC .non))
theorem firstN_drop {R : List RwN} {i : Nat} {r : RwN} (h : R[i]? = some r) : firstN (R.drop i) = match r.2 with | some x => some x | none => firstN (R.drop (i + 1)) := by
  rw [drop_get h]
  exact (firstN_cons r _).trans (by cases r.2 <;> rfl)
theorem read_firstN {K : PySem.W.Frag} {N : List Str} {vs : List V} {H : Hp} {Q : VK} {E : XK} (hN : N.length = 3) (h : spFirstN K vs H Q E) : rdFirstN K { nx := fun _ H' => Q .non H', rt := Q } (L2.start N vs) H := by
  obtain ⟨p, R, rfl, ⟨xs, hq, hp⟩, q⟩ := h
  unfold rdFirstN L2.start
  rw [hN]
  have hxl := hp.len
  rw [List.length_map] at hxl
  refine seq_any fun c hc => ?_
  and_intros
  refine for_l (a := p) (xs := xs) (fun Q h => ⟨_, rfl, h⟩) hq (fun i σ H' => ∃ (v1 v2 : Option V), H' = H ∧ σ = [some (.ref p), v1, v2] ∧ firstN (R.drop i) = firstN R) ⟨_, _, rfl, rfl, by rw [List.drop_zero]⟩ (fun i σ H' _ h => by obtain ⟨_, _, e, _⟩ := h; rw [e]; exact hq) ?_ ?_
  · rintro i x σ H' hx ⟨v1, v2, rfl, rfl, hf⟩
    obtain ⟨k, t, ek, rfl, ht⟩ := hp.get hx
    rw [List.getElem?_map] at ek
    obtain ⟨⟨m, v⟩, ek2, rfl⟩ := Option.map_eq_some_iff.mp ek
    rw [firstN_drop ek2] at hf
    simp only [gTup, gCons, gNil, rowP, tCompSet,tRaise,tIsi,tSeq,tAsg,gName,tOp,tUn,tVar,tC,tTest,tB,tIf,tIfS,tAnd,tOr,tNot,tAndV,tOrV,tNotV,tRet,tRetN,tNext,tDrop,tCB,tCons,tNil,tBM,tBM0,tCall,tLst,tTup,tSl,tPart,tNoPart,tIsN,tNotN,tYes,tBreak,tCont,rI0,rI,rU,rEq,rNe,L2.start,compSt,List.map_cons,List.map_nil,List.length_cons,List.length_nil,List.replicate_succ,List.replicate_zero,List.cons_append,List.nil_append,List.append_nil,List.getElem?_cons_zero,List.getElem?_cons_succ,List.set_cons_zero,List.set_cons_succ,Option.some.injEq,Option.join_some,V.int.injEq,V.str.injEq,V.bl.injEq,V.ref.injEq,txt_inj,exists_eq_left',exists_eq_left,exists_and_left,and_true,true_and,decide_eq_true_eq,reduceCtorEq,decide_false,decide_true,Bool.not_false,Bool.not_true,if_true,if_false,Bool.false_eq_true,Nat.reduceAdd,Nat.reduceSub,Bool.not_eq_true',decide_eq_false_iff_not,not_true_eq_false,not_false_eq_true]
    refine ⟨[strV m, oV v], SqT.of ht, rfl, strV m, [oV v], rfl, oV v, [], rfl, rfl, ?_⟩
    cases v with
    | none =>
      simp only [oV, tCompSet,tRaise,tIsi,tSeq,tAsg,gName,tOp,tUn,tVar,tC,tTest,tB,tIf,tIfS,tAnd,tOr,tNot,tAndV,tOrV,tNotV,tRet,tRetN,tNext,tDrop,tCB,tCons,tNil,tBM,tBM0,tCall,tLst,tTup,tSl,tPart,tNoPart,tIsN,tNotN,tYes,tBreak,tCont,rI0,rI,rU,rEq,rNe,L2.start,compSt,List.map_cons,List.map_nil,List.length_cons,List.length_nil,List.replicate_succ,List.replicate_zero,List.cons_append,List.nil_append,List.append_nil,List.getElem?_cons_zero,List.getElem?_cons_succ,List.set_cons_zero,List.set_cons_succ,Option.some.injEq,Option.join_some,V.int.injEq,V.str.injEq,V.bl.injEq,V.ref.injEq,txt_inj,exists_eq_left',exists_eq_left,exists_and_left,and_true,true_and,decide_eq_true_eq,reduceCtorEq,decide_false,decide_true,Bool.not_false,Bool.not_true,if_true,if_false,Bool.false_eq_true,Nat.reduceAdd,Nat.reduceSub,Bool.not_eq_true',decide_eq_false_iff_not,not_true_eq_false,not_false_eq_true]
      exact ⟨_, _, rfl, hf⟩
    | some y =>
      simp only [oV, tCompSet,tRaise,tIsi,tSeq,tAsg,gName,tOp,tUn,tVar,tC,tTest,tB,tIf,tIfS,tAnd,tOr,tNot,tAndV,tOrV,tNotV,tRet,tRetN,tNext,tDrop,tCB,tCons,tNil,tBM,tBM0,tCall,tLst,tTup,tSl,tPart,tNoPart,tIsN,tNotN,tYes,tBreak,tCont,rI0,rI,rU,rEq,rNe,L2.start,compSt,List.map_cons,List.map_nil,List.length_cons,List.length_nil,List.replicate_succ,List.replicate_zero,List.cons_append,List.nil_append,List.append_nil,List.getElem?_cons_zero,List.getElem?_cons_succ,List.set_cons_zero,List.set_cons_succ,Option.some.injEq,Option.join_some,V.int.injEq,V.str.injEq,V.bl.injEq,V.ref.injEq,txt_inj,exists_eq_left',exists_eq_left,exists_and_left,and_true,true_and,decide_eq_true_eq,reduceCtorEq,decide_false,decide_true,Bool.not_false,Bool.not_true,if_true,if_false,Bool.false_eq_true,Nat.reduceAdd,Nat.reduceSub,Bool.not_eq_true',decide_eq_false_iff_not,not_true_eq_false,not_false_eq_true]
      rw [← hf] at q
      exact q
  · rintro σ H' ⟨v1, v2, rfl, rfl, hf⟩
    refine hc _ _ ?_
    and_intros
    rw [← hf, List.drop_of_length_le (by omega)] at q
    exact q
def kO : Option (List Nat) → Key
  | none => .non
  | some l => .inr (txt l)
theorem kO_V (o : Option (List Nat)) : kV (kO o) = oV o := by cases o <;> rfl
theorem kO_inj {a b : Option (List Nat)} (h : kO a = kO b) : a = b := by
  cases a <;> cases b
  · rfl
  · cases h
  · cases h
  · injection h with h; rw [txt_inj.mp h]
def StemsD (L : Nat) (kvs : List (List Key × V)) : Prop := ∀ lo hi v, valV kvs [kO lo, kO hi] = some v → ∃ n w s, v = strV s ∧ Stem L lo hi n w s
theorem StemsD.nil (L : Nat) : StemsD L [] := fun lo hi v h => by cases h
theorem StemsD.put {L : Nat} {kvs : List (List Key × V)} (h : StemsD L kvs) {lo hi : Option (List Nat)} {n w : Nat} {s : List Nat} (S : Stem L lo hi n w s) : StemsD L (putK kvs [kO lo, kO hi] (strV s)) := fun lo' hi' v e => by
  rw [valV_put] at e
  split at e
  · rename_i q
    injection q with q1 q2
    injection q2 with q2 _
    rw [kO_inj q1, kO_inj q2]
    injection e with e
    exact ⟨n, w, s, e.symm, S⟩
  · exact h _ _ _ e
def spCarK (K : PySem.W.Frag) : Sp := fun vs H Q _ => ∃ (L : Nat) (p d : Addr) (R : List RwN) (m : List Nat) (kvs : List (List Key × V)), vs = [.int L, .ref p, .str (txt m), .ref d] ∧ 2 ≤ L ∧ L ≤ 26 ∧ AtRows K H p R ∧ RowsOk L R ∧ Mark L m ∧ m.length ≤ 10000 ∧
  H d = some (.dT kvs) ∧ StemsD L kvs ∧ kvs.length ≤ 100000 ∧
  ∀ H' v kvs', Keeps [d] H H' → H' d = some (.dT kvs') → StemsD L kvs' → kvs'.length ≤ kvs.length + 1 → Car L R m v → Q (oV v) H'
def rdCarK (K : PySem.W.Frag) (c : Addr) : TS :=
    tSeq (tAsg (tCall (spAheadR K) [] E0 (tCons (tVar 1) (tCons (tVar 2) tNil))) (gName 4))
      (tSeq (tIfS (tAnd (tTest (tOp rLtI (tVar 4) (tCB (rLenL K) (tCons (tVar 1) tNil)))) (tTest (tOp rEq (tOp (rIxT K) (tOp (rIxL K) (tVar 1) (tVar 4)) (tC (.int 0))) (tVar 2)))) (tRet (tOp (rIxT K) (tOp (rIxL K) (tVar 1) (tVar 4)) (tC (.int 1)))) (tNext))
      (tSeq (tAsg (tCall (spFirstN K) [] E0 (tCons (tListRev K (tCons (tSl (rSlL K) (tVar 1) tNoPart (tPart (tVar 4))) tNil)) tNil)) (gName 5))
      (tSeq (tAsg (tCall (spFirstN K) [] E0 (tCons (tSl (rSlL K) (tVar 1) (tPart (tVar 4)) tNoPart) tNil)) (gName 6))
      (tSeq (tIfS (tTest (tOp (rInD true) (tTup (tCons (tVar 5) (tCons (tVar 6) tNil))) (tVar 3))) (sDPut (tVar 3) (tTup (tCons (tVar 5) (tCons (tVar 6) tNil))) (tCall (spStem c) [] E0 (tCons (tVar 0) (tCons (tVar 5) (tCons (tVar 6) tNil))))) (tNext))
      (tRet (tOp rAddS (tDGet (tVar 3) (tTup (tCons (tVar 5) (tCons (tVar 6) tNil)))) (tVar 2)))))))
end L2
set_option Elab.async false
set_option linter.all false
set_option maxRecDepth 100000
set_option maxHeartbeats 4000000
namespace L2
open PySem PySem.Spec PyProof.Rows MM
theorem Prs.take {H : Hp} : ∀ {xs : List V} {ps : List (V × V)} (n : Nat), Prs H xs ps → Prs H (xs.take n) (ps.take n)
  | [], [], n, _ => by simp [Prs]
  | [], _ :: _, _, h => h.elim
  | _ :: _, [], _, h => h.elim
  | _ :: _, _ :: _, 0, _ => trivial
  | _ :: _, _ :: _, n + 1, ⟨a, r⟩ => ⟨a, Prs.take n r⟩
theorem Prs.drop {H : Hp} : ∀ {xs : List V} {ps : List (V × V)} (n : Nat), Prs H xs ps → Prs H (xs.drop n) (ps.drop n)
  | [], [], n, _ => by simp [Prs]
  | [], _ :: _, _, h => h.elim
  | _ :: _, [], _, h => h.elim
  | _ :: _, _ :: _, 0, h => h
  | _ :: _, _ :: _, n + 1, ⟨_, r⟩ => Prs.drop n r
theorem Prs.rev {H : Hp} : ∀ {xs : List V} {ps : List (V × V)}, Prs H xs ps → Prs H xs.reverse ps.reverse
  | [], [], _ => trivial
  | [], _ :: _, h => h.elim
  | _ :: _, [], h => h.elim
  | _ :: _, _ :: _, ⟨a, r⟩ => by
    rw [List.reverse_cons, List.reverse_cons]
    exact Prs.app (Prs.rev r) ⟨a, trivial⟩
section
variable {L : Nat} {R : List RwN} {m : List Nat} {k : Nat}
theorem filt_take (h1 : ∀ r ∈ R.take k, r.1 < m) (h2 : ∀ r ∈ R.drop k, ¬ r.1 < m) : R.filter (isBel m) = R.take k ∧ R.filter (fun r => !isBel m r) = R.drop k := by
  have a1 : (R.take k).filter (isBel m) = R.take k := List.filter_eq_self.mpr fun r hr => decide_eq_true (h1 r hr)
  have a2 : (R.drop k).filter (isBel m) = [] := List.filter_eq_nil_iff.mpr fun r hr => by rw [isBel, decide_eq_false (h2 r hr)]; decide
  have a3 : (R.take k).filter (fun r => !isBel m r) = [] := List.filter_eq_nil_iff.mpr fun r hr => by rw [isBel, decide_eq_true (h1 r hr)]; decide
  have a4 : (R.drop k).filter (fun r => !isBel m r) = R.drop k := List.filter_eq_self.mpr fun r hr => by rw [isBel, decide_eq_false (h2 r hr)]; rfl
  constructor
  · conv => lhs; rw [← List.take_append_drop k R]
    rw [List.filter_append, a1, a2, List.append_nil]
  · conv => lhs; rw [← List.take_append_drop k R]
    rw [List.filter_append, a3, a4, List.nil_append]
theorem low_take (h1 : ∀ r ∈ R.take k, r.1 < m) (h2 : ∀ r ∈ R.drop k, ¬ r.1 < m) : firstN (R.take k).reverse = lowN R m := by
  unfold lowN
  rw [List.filter_reverse, (filt_take h1 h2).1]
theorem high_drop (h1 : ∀ r ∈ R.take k, r.1 < m) (h2 : ∀ r ∈ R.drop k, ¬ r.1 < m) : firstN (R.drop k) = highN R m := by
  unfold highN
  rw [(filt_take h1 h2).2]
theorem no_row (up : R.Pairwise fun a b => a.1 < b.1) (h1 : ∀ r ∈ R.take k, r.1 < m) (h2 : ∀ r ∈ R.drop k, ¬ r.1 < m) (h3 : ∀ r, R[k]? = some r → r.1 ≠ m) : ∀ r ∈ R, r.1 ≠ m := fun r hr e => by
  rw [← List.take_append_drop k R] at hr
  rcases List.mem_append.mp hr with hr | hr
  · have := h1 r hr
    rw [e] at this
    exact List.lt_irrefl _ this
  · obtain ⟨i, hi, rfl⟩ := List.mem_iff_getElem.mp hr
    rw [List.length_drop] at hi
    rw [List.getElem_drop] at e
    cases i with
    | zero => exact h3 _ (List.getElem?_eq_getElem (by omega)) e
    | succ i =>
      have := List.pairwise_iff_getElem.mp up k (k + (i + 1)) (by omega) (by omega) (by omega)
      rw [e] at this
      exact h2 R[k] (by rw [List.drop_eq_getElem_cons (show k < R.length by omega)]; exact List.mem_cons_self) this
end
theorem slL_go {K : PySem.W.Frag} {H : Hp} {a : Addr} {xs : List V} {lo hi : Option Int} {Q : VK} (h : SqL K H a xs) (q : ∀ p, H p = none → Q (.ref p) (upd H p (.lst (cutV xs lo hi)))) : rSlL K (.ref a) lo hi H Q := ⟨a, xs, rfl, h, q⟩
theorem Keeps.of_same {F : List Addr} {H H' : Hp} (s : Same H H') : Keeps F H H' := fun b o e _ => s b o e
theorem read_carK {K : PySem.W.Frag} {c : Addr} {N : List Str} {vs : List V} {H : Hp} {Q : VK} {E : XK} (hN : N.length = 7) (h : spCarK K vs H Q E) : rdCarK K c { nx := fun _ H' => Q .non H', rt := Q } (L2.start N vs) H := by
  obtain ⟨L, p, d, R, m, kvs, rfl, hL, hL26, hA, O, M, hm, hd, hst, hkv, q⟩ := h
  unfold rdCarK L2.start
  rw [hN]
  refine seq_set fun c1 hc => ?_
  and_intros
  refine ⟨p, R, m, rfl, hA, O.up, O.len, fun k hk h1 h2 => hc _ _ ?_⟩
  clear hc c1
  obtain ⟨xs, hq, hp⟩ := id hA
  have hxl := hp.len
  rw [List.length_map] at hxl
  refine seq_any fun c1 hc => ?_
  suffices main : (∀ r ∈ R, r.1 ≠ m) → c1 [some (.int L), some (.ref p), some (.str (txt m)), some (.ref d), some (.int k), none, none] H by
    and_intros
    refine lenL_go hq ⟨_, rfl, ?_⟩
    rw [hxl]
    by_cases z : (k : Int) < (R.length : Int)
    · rw [if_pos z]
      obtain ⟨r, hr⟩ := some_at (l := R) (i := k) (by omega)
      obtain ⟨ys, t, b1, b2, b3⟩ := hA.get hr
      refine ixL_go b1 (by omega) (by rw [Int.toNat_natCast]; exact b2) ?_
      refine ixT_go (v := strV r.1) b3 (by decide) rfl ?_
      refine ⟨rfl, ?_⟩
      by_cases e : r.1 = m
      · rw [if_pos (by rw [e]; rfl)]
        refine ixL_go b1 (by omega) (by rw [Int.toNat_natCast]; exact b2) ?_
        refine ixT_go (v := oV r.2) b3 (by decide) rfl ?_
        exact q H _ kvs (Keeps.of_same (Same.refl _)) hd hst (by omega) (.inl ⟨r, List.mem_of_getElem? hr, e, rfl⟩)
      · rw [if_neg (fun z => e (txt_inj.mp (by injection z)))]
        exact main (no_row O.up h1 h2 fun r' hr' => by rw [hr] at hr'; cases hr'; exact e)
    · rw [if_neg z]
      exact main (no_row O.up h1 h2 fun r' hr' => absurd (List.getElem?_eq_some_iff.mp hr').1 (by omega))
  intro hno
  refine hc _ _ ?_
  clear hc c1
  refine seq_set fun c1 hc => ?_
  simp only [tListRev, tCompSet,tRaise,tIsi,tSeq,tAsg,gName,tOp,tUn,tVar,tC,tTest,tB,tIf,tIfS,tAnd,tOr,tNot,tAndV,tOrV,tNotV,tRet,tRetN,tNext,tDrop,tCB,tCons,tNil,tBM,tBM0,tCall,tLst,tTup,tSl,tPart,tNoPart,tIsN,tNotN,tYes,tBreak,tCont,rI0,rI,rU,rEq,rNe,L2.start,compSt,List.map_cons,List.map_nil,List.length_cons,List.length_nil,List.replicate_succ,List.replicate_zero,List.cons_append,List.nil_append,List.append_nil,List.getElem?_cons_zero,List.getElem?_cons_succ,List.set_cons_zero,List.set_cons_succ,Option.some.injEq,Option.join_some,V.int.injEq,V.str.injEq,V.bl.injEq,V.ref.injEq,txt_inj,exists_eq_left',exists_eq_left,exists_and_left,and_true,true_and,decide_eq_true_eq,reduceCtorEq,decide_false,decide_true,Bool.not_false,Bool.not_true,if_true,if_false,Bool.false_eq_true,Nat.reduceAdd,Nat.reduceSub,Bool.not_eq_true',decide_eq_false_iff_not,not_true_eq_false,not_false_eq_true]
  refine slL_go hq fun p1 hp1 => ?_
  rw [cutV_to (by omega)]
  have s1 := Same.up H hp1 (o := .lst (xs.take k))
  refine ⟨p1, rfl, xs.take k, SqL.here, fun p2 hp2 => ?_⟩
  have s2 := s1.new hp2 (o := .lst (xs.take k).reverse)
  refine ⟨p2, (R.take k).reverse, rfl, ⟨_, SqL.here, ?_⟩, hc _ _ ?_⟩
  · have := (hp.take k).rev
    rw [← List.map_take, ← List.map_reverse] at this
    exact this.same s2
  clear hc c1
  rw [low_take h1 h2]
  generalize upd (upd H p1 _) p2 _ = H2 at s2 ⊢
  refine seq_set fun c1 hc => ?_
  and_intros
  refine slL_go (s2.seq hq) fun p3 hp3 => ?_
  rw [cutV_from (by omega)]
  have s3 := s2.new hp3 (o := .lst (xs.drop k))
  refine ⟨p3, R.drop k, rfl, ⟨_, SqL.here, ?_⟩, hc _ _ ?_⟩
  · have := hp.drop k
    rw [← List.map_drop] at this
    exact this.same s3
  clear hc c1
  rw [high_drop h1 h2]
  generalize upd H2 p3 _ = H3 at s3 ⊢
  have hlen := O.lens m
  have hok := O.okLH m
  have hMk := O.marksOk m
  generalize elo : lowN R m = lo at hlen hok hMk ⊢
  generalize ehi : highN R m = hi at hlen hok hMk ⊢
  have ek : [oV lo, oV hi] = [kO lo, kO hi].map kV := by simp [kO_V]
  refine seq_any fun c1 hc => ?_
  suffices main : ∀ H5 kvs5 s n w, Keeps [d] H H5 → H5 d = some (.dT kvs5) → StemsD L kvs5 → kvs5.length ≤ kvs.length + 1 → valV kvs5 [kO lo, kO hi] = some (strV s) → Stem L lo hi n w s →
      c1 [some (.int L), some (.ref p), some (.str (txt m)), some (.ref d), some (.int k), some (oV lo), some (oV hi)] H5 by
    and_intros
    refine ⟨by decide, fun t ht => ?_⟩
    have s4 := s3.new ht (o := .tup [oV lo, oV hi])
    have hT : (upd H3 t (.tup [oV lo, oV hi])) t = some (.tup ([kO lo, kO hi].map kV)) := by rw [← ek]; exact upd_same
    generalize upd H3 t _ = H4 at s4 hT ⊢
    have hd4 := s4 _ _ hd
    refine ⟨d, valV kvs [kO lo, kO hi], rfl, DGet.t hd4 hT, _, rfl, ?_⟩
    cases ev : valV kvs [kO lo, kO hi] with
    | some v =>
      obtain ⟨n, w, s, rfl, S⟩ := hst _ _ _ ev
      rw [if_neg (by simp)]
      exact main H4 kvs s n w (Keeps.of_same s4) hd4 hst (by omega) ev S
    | none =>
      rw [if_pos (by simp)]
      simp only [sDPut, tCompSet,tRaise,tIsi,tSeq,tAsg,gName,tOp,tUn,tVar,tC,tTest,tB,tIf,tIfS,tAnd,tOr,tNot,tAndV,tOrV,tNotV,tRet,tRetN,tNext,tDrop,tCB,tCons,tNil,tBM,tBM0,tCall,tLst,tTup,tSl,tPart,tNoPart,tIsN,tNotN,tYes,tBreak,tCont,rI0,rI,rU,rEq,rNe,L2.start,compSt,List.map_cons,List.map_nil,List.length_cons,List.length_nil,List.replicate_succ,List.replicate_zero,List.cons_append,List.nil_append,List.append_nil,List.getElem?_cons_zero,List.getElem?_cons_succ,List.set_cons_zero,List.set_cons_succ,Option.some.injEq,Option.join_some,V.int.injEq,V.str.injEq,V.bl.injEq,V.ref.injEq,txt_inj,exists_eq_left',exists_eq_left,exists_and_left,and_true,true_and,decide_eq_true_eq,reduceCtorEq,decide_false,decide_true,Bool.not_false,Bool.not_true,if_true,if_false,Bool.false_eq_true,Nat.reduceAdd,Nat.reduceSub,Bool.not_eq_true',decide_eq_false_iff_not,not_true_eq_false,not_false_eq_true]
      refine ⟨L, lo, hi, rfl, hL, hL26, hMk, fun _ H5 n w s s5 S => ?_, fun no => absurd hok no⟩
      refine ⟨by decide, fun t2 ht2 => ?_⟩
      have s6 := (s4.trans s5).new ht2 (o := .tup [oV lo, oV hi])
      have hT2 : (upd H5 t2 (.tup [oV lo, oV hi])) t2 = some (.tup ([kO lo, kO hi].map kV)) := by rw [← ek]; exact upd_same
      generalize upd H5 t2 _ = H6 at s6 hT2 ⊢
      refine ⟨_, DPut.t (s6 _ _ hd) hT2 (by rw [sizeLine_eq]; omega), ?_⟩
      exact main _ _ s n w ((Keeps.of_same s6).upd (.inl List.mem_cons_self)) upd_same (hst.put S) (length_putK _ _ _) (by rw [valV_put, if_pos rfl]; rfl) S
  intro H5 kvs5 s n w k5 hd5 st5 len5 ev5 S
  refine hc _ _ ?_
  clear hc c1
  simp only [tDGet, tCompSet,tRaise,tIsi,tSeq,tAsg,gName,tOp,tUn,tVar,tC,tTest,tB,tIf,tIfS,tAnd,tOr,tNot,tAndV,tOrV,tNotV,tRet,tRetN,tNext,tDrop,tCB,tCons,tNil,tBM,tBM0,tCall,tLst,tTup,tSl,tPart,tNoPart,tIsN,tNotN,tYes,tBreak,tCont,rI0,rI,rU,rEq,rNe,L2.start,compSt,List.map_cons,List.map_nil,List.length_cons,List.length_nil,List.replicate_succ,List.replicate_zero,List.cons_append,List.nil_append,List.append_nil,List.getElem?_cons_zero,List.getElem?_cons_succ,List.set_cons_zero,List.set_cons_succ,Option.some.injEq,Option.join_some,V.int.injEq,V.str.injEq,V.bl.injEq,V.ref.injEq,txt_inj,exists_eq_left',exists_eq_left,exists_and_left,and_true,true_and,decide_eq_true_eq,reduceCtorEq,decide_false,decide_true,Bool.not_false,Bool.not_true,if_true,if_false,Bool.false_eq_true,Nat.reduceAdd,Nat.reduceSub,Bool.not_eq_true',decide_eq_false_iff_not,not_true_eq_false,not_false_eq_true]
  refine ⟨by decide, fun t ht => ?_⟩
  have hT : (upd H5 t (.tup [oV lo, oV hi])) t = some (.tup ([kO lo, kO hi].map kV)) := by rw [← ek]; exact upd_same
  have ne : d ≠ t := fun z => by subst z; rw [hd5] at ht; cases ht
  have hd6 : (upd H5 t (.tup [oV lo, oV hi])) d = some (.dT kvs5) := by rw [upd_ne ne]; exact hd5
  have k6 : Keeps [d] H (upd H5 t (.tup [oV lo, oV hi])) := k5.upd (.inr ht)
  generalize upd H5 t _ = H6 at hT hd6 k6 ⊢
  refine ⟨strV s, by rw [← ev5]; exact DGet.t hd6 hT, ?_⟩
  obtain ⟨_, b2, _, b4, _⟩ := S.all hL hMk hok
  have hz : s.length ≤ 501 := by rw [b2]; omega
  refine addS_go (by omega) ?_
  exact q H6 (some (s ++ m)) kvs5 k6 hd6 st5 len5 (.inr ⟨hno, n, w, s, by rw [elo, ehi]; exact S, rfl⟩)
end L2
set_option Elab.async false
set_option linter.all false
set_option maxRecDepth 100000
set_option maxHeartbeats 4000000
namespace K42
open PySem PySem.Spec PyProof.Rows L2 MM
def top (i : Nat) : Stmt := PySem.Challenge.pw_shelfmark_k42_whole_marks_carried.main.body.getD i (.Pass ⟨0, 0, 0, 0⟩)
abbrev s_p23 : Stmt := top 5
abbrev s_p13 : Stmt := top 6
abbrev s_p26 : Stmt := top 7
abbrev s_p18 : Stmt := top 8
abbrev s_p12 : Stmt := top 10
abbrev s_p8 : Stmt := top 11
abbrev s_p15 : Stmt := top 12
abbrev s_p21 : Stmt := top 13
abbrev s_p22 : Stmt := top 14
abbrev s_p20 : Stmt := top 15
abbrev s_p11 : Stmt := top 16
abbrev s_p19 : Stmt := top 17
abbrev s_p17 : Stmt := top 19
abbrev s_p25 : Stmt := top 21
abbrev s_p24 : Stmt := top 22
abbrev s_p14 : Stmt := top 23
abbrev s_p10 : Stmt := top 24
abbrev s_p9 : Stmt := top 25
abbrev s_draw : Stmt := top 27
abbrev s_letters : Stmt := top 28
abbrev s_text : Stmt := top 29
abbrev s_mark : Stmt := top 30
abbrev s_marks : Stmt := top 31
abbrev s_renewed : Stmt := top 32
abbrev s_rows : Stmt := top 33
abbrev s_due : Stmt := top 34
abbrev s_law : Stmt := top 35
structure Ad where
  (c_NoRoom f_p23 f_p13 f_p26 f_p18 f_p12 f_p8 f_p15 f_p21 f_p22 f_p20 f_p11 f_p19 f_p17 f_p25 f_p24 f_p14 f_p10 f_p9 f_draw f_letters f_text f_mark f_marks f_renewed f_rows f_due f_law : Addr)
  (fd_p23 fd_p13 fd_p26 fd_p18 fd_p12 fd_p8 fd_p15 fd_p21 fd_p22 fd_p20 fd_p11 fd_p19 fd_p17 fd_p25 fd_p24 fd_p14 fd_p10 fd_p9 fd_draw fd_letters fd_text fd_mark fd_marks fd_renewed fd_rows fd_due fd_law : FuncData)
structure Tx (K : PySem.W.Frag) (mg : Str → Option Value) (a : Ad) : Prop where
  n_len : mg "len" = none
  n_list : mg "list" = none
  n_min : mg "min" = none
  n_range : mg "range" = none
  n_reversed : mg "reversed" = none
  n_sorted : mg "sorted" = none
  c_SMALL : ∃ t, mg "SMALL" = some (.str "abcdefghijklmnopqrstuvwxyz" t)
  m_NoRoom : mg "NoRoom" = some (.ref a.c_NoRoom)
  x_NoRoom : PySem.W.excIn K a.c_NoRoom [.type "ValueError", .type "Exception", .type "BaseException", .type "object"] "ValueError.__new__" = true
  g_p23 : mg "power" = some (.ref a.f_p23)
  F_p23 : Fun K "power" "power" s_p23 a.f_p23 a.fd_p23
  b_p23 : Binds K a.fd_p23 ["letters", "long"] []
  g_p13 : mg "figure_at" = some (.ref a.f_p13)
  F_p13 : Fun K "figure_at" "figure_at" s_p13 a.f_p13 a.fd_p13
  b_p13 : Binds K a.fd_p13 ["mark", "place"] []
  g_p26 : mg "whole_of" = some (.ref a.f_p26)
  F_p26 : Fun K "whole_of" "whole_of" s_p26 a.f_p26 a.fd_p26
  b_p26 : Binds K a.fd_p26 ["letters", "mark", "long"] []
  g_p18 : mg "mark_of" = some (.ref a.f_p18)
  F_p18 : Fun K "mark_of" "mark_of" s_p18 a.f_p18 a.fd_p18
  b_p18 : Binds K a.fd_p18 ["letters", "number", "long"] []
  g_p12 : mg "ends_of" = some (.ref a.f_p12)
  F_p12 : Fun K "ends_of" "ends_of" s_p12 a.f_p12 a.fd_p12
  b_p12 : Binds K a.fd_p12 ["letters", "hands", "hand"] []
  g_p8 : mg "ask_room" = some (.ref a.f_p8)
  F_p8 : Fun K "ask_room" "ask_room" s_p8 a.f_p8 a.fd_p8
  b_p8 : Binds K a.fd_p8 ["low", "high"] []
  g_p15 : mg "high_whole_of" = some (.ref a.f_p15)
  F_p15 : Fun K "high_whole_of" "high_whole_of" s_p15 a.f_p15 a.fd_p15
  b_p15 : Binds K a.fd_p15 ["letters", "high", "long"] []
  g_p21 : mg "owned_below" = some (.ref a.f_p21)
  F_p21 : Fun K "owned_below" "owned_below" s_p21 a.f_p21 a.fd_p21
  b_p21 : Binds K a.fd_p21 ["letters", "ends", "number"] []
  g_p22 : mg "owned_up_to_low" = some (.ref a.f_p22)
  F_p22 : Fun K "owned_up_to_low" "owned_up_to_low" s_p22 a.f_p22 a.fd_p22
  b_p22 : Binds K a.fd_p22 ["letters", "ends", "low_whole"] []
  g_p20 : mg "owned_ahead_of_high" = some (.ref a.f_p20)
  F_p20 : Fun K "owned_ahead_of_high" "owned_ahead_of_high" s_p20 a.f_p20 a.fd_p20
  b_p20 : Binds K a.fd_p20 ["letters", "ends", "high", "high_whole", "long", "beginnings"] []
  g_p11 : mg "counted_at" = some (.ref a.f_p11)
  F_p11 : Fun K "counted_at" "counted_at" s_p11 a.f_p11 a.fd_p11
  b_p11 : Binds K a.fd_p11 ["letters", "ends", "low", "high", "long", "beginnings"] []
  g_p19 : mg "nth_mark" = some (.ref a.f_p19)
  F_p19 : Fun K "nth_mark" "nth_mark" s_p19 a.f_p19 a.fd_p19
  b_p19 : Binds K a.fd_p19 ["letters", "hands", "hand", "low", "high", "long", "number"] []
  g_p17 : mg "least_counted" = some (.ref a.f_p17)
  F_p17 : Fun K "least_counted" "least_counted" s_p17 a.f_p17 a.fd_p17
  b_p17 : Binds K a.fd_p17 ["letters", "ends", "low", "high", "many", "beginnings"] []
  g_p25 : mg "stem_between" = some (.ref a.f_p25)
  F_p25 : Fun K "stem_between" "stem_between" s_p25 a.f_p25 a.fd_p25
  b_p25 : Binds K a.fd_p25 ["letters", "low", "high"] []
  g_p24 : mg "rows_ahead" = some (.ref a.f_p24)
  F_p24 : Fun K "rows_ahead" "rows_ahead" s_p24 a.f_p24 a.fd_p24
  b_p24 : Binds K a.fd_p24 ["rows", "mark"] []
  g_p14 : mg "first_new" = some (.ref a.f_p14)
  F_p14 : Fun K "first_new" "first_new" s_p14 a.f_p14 a.fd_p14
  b_p14 : Binds K a.fd_p14 ["rows"] []
  g_p10 : mg "carried_knowing" = some (.ref a.f_p10)
  F_p10 : Fun K "carried_knowing" "carried_knowing" s_p10 a.f_p10 a.fd_p10
  b_p10 : Binds K a.fd_p10 ["letters", "rows", "mark", "stems"] []
  g_p9 : mg "carried" = some (.ref a.f_p9)
  F_p9 : Fun K "carried" "carried" s_p9 a.f_p9 a.fd_p9
  b_p9 : Binds K a.fd_p9 ["letters", "rows", "mark"] []
  g_draw : mg "_law_draw" = some (.ref a.f_draw)
  F_draw : Fun K "_law_draw" "_law_draw" s_draw a.f_draw a.fd_draw
  b_draw : Binds K a.fd_draw ["_law_script", "_law_k", "_law_many"] []
  g_letters : mg "_law_letters" = some (.ref a.f_letters)
  F_letters : Fun K "_law_letters" "_law_letters" s_letters a.f_letters a.fd_letters
  b_letters : Binds K a.fd_letters ["_law_script"] []
  g_text : mg "_law_text" = some (.ref a.f_text)
  F_text : Fun K "_law_text" "_law_text" s_text a.f_text a.fd_text
  b_text : Binds K a.fd_text ["_law_letters_here", "_law_number", "_law_long"] []
  g_mark : mg "_law_mark" = some (.ref a.f_mark)
  F_mark : Fun K "_law_mark" "_law_mark" s_mark a.f_mark a.fd_mark
  b_mark : Binds K a.fd_mark ["_law_script", "_law_base", "_law_letters_here"] []
  g_marks : mg "_law_marks" = some (.ref a.f_marks)
  F_marks : Fun K "_law_marks" "_law_marks" s_marks a.f_marks a.fd_marks
  b_marks : Binds K a.fd_marks ["_law_script", "_law_base", "_law_letters_here", "_law_many"] []
  g_renewed : mg "_law_renewed" = some (.ref a.f_renewed)
  F_renewed : Fun K "_law_renewed" "_law_renewed" s_renewed a.f_renewed a.fd_renewed
  b_renewed : Binds K a.fd_renewed ["_law_letters_here", "_law_many"] []
  g_rows : mg "_law_rows" = some (.ref a.f_rows)
  F_rows : Fun K "_law_rows" "_law_rows" s_rows a.f_rows a.fd_rows
  b_rows : Binds K a.fd_rows ["_law_script", "_law_base", "_law_letters_here", "_law_marks_here"] []
  g_due : mg "_law_due" = some (.ref a.f_due)
  F_due : Fun K "_law_due" "_law_due" s_due a.f_due a.fd_due
  b_due : Binds K a.fd_due ["_law_letters_here", "_law_rows_here", "_law_mark_here"] []
  g_law : mg "law" = some (.ref a.f_law)
  F_law : Fun K "law" "law" s_law a.f_law a.fd_law
  b_law : Binds K a.fd_law ["_law_script"] []
end K42
namespace K42
open PySem PySem.Spec PyProof.Rows L2 MM
set_option linter.all false
set_option maxRecDepth 100000
set_option maxHeartbeats 4000000
def spLaw (K : PySem.W.Frag) : Sp := fun vs H Q _ => ∃ (a : Addr) (ns : List Int), vs = [.ref a] ∧ SqL K H a (ns.map V.int) ∧ ns.length ≤ 63 ∧ ∀ H', Q (.bl true) H'
def spCar (K : PySem.W.Frag) : Sp := fun vs H Q _ => ∃ (L : Nat) (p : Addr) (R : List RwN) (m : List Nat), vs = [.int L, .ref p, .str (txt m)] ∧ 2 ≤ L ∧ L ≤ 26 ∧ AtRows K H p R ∧ RowsOk L R ∧ Mark L m ∧ m.length ≤ 10000 ∧
  ∀ H' v, Same H H' → Car L R m v → Q (oV v) H'
def spDue (K : PySem.W.Frag) : Sp := spCar K
def spLRows (K : PySem.W.Frag) : Sp := fun vs H Q _ => ∃ (a : Addr) (ns : List Int) (L : Nat) (p : Addr) (ms : List (List Nat)), vs = [.ref a, .int 50, .int L, .ref p] ∧ SqL K H a (ns.map V.int) ∧ ns.length ≤ 63 ∧ 2 ≤ L ∧ L ≤ 26 ∧ SqL K H p (ms.map strV) ∧
  (∀ m ∈ ms, Mark L m ∧ m.length ≤ 200) ∧ ms.length ≤ 40 ∧ ms.Pairwise (· < ·) ∧ ∀ H' r R, Same H H' → AtRows K H' r R → RowsOk L R → R.map (·.1) = ms → Q (.ref r) H'
theorem sc_p23 : FnScope ["letters", "long", "product", "step"] ["letters", "long"] (defScope s_p23) := ⟨rfl, rfl, rfl, by decide +kernel, rfl, by decide +kernel, by decide +kernel⟩
def rd_p23 (K : PySem.W.Frag) (a : Ad) : TS :=
    tSeq (tAsg (tC (.int 1)) (gName 2))
      (tSeq (tFor (iRng1 (tCons (tVar 1) tNil)) (gName 3) (tAsg (tOp rMulI (tVar 2) (tVar 0)) (gName 2)))
      (tRet (tVar 2)))
theorem pr_p23 {P : Program} {w : World} {K : PySem.W.Frag} {mg : Str → Option Value} {base : Heap} {a : Ad} (T : Tx K mg a) {f : Addr} {cdv : Value} {A : Around} {outer : List Env} {s : Shared} {H : Hp} {E : XK} (hr : Room 0 (A.deeper (envOfC "power" (defScope s_p23) s.heap.objs.size f cdv))) :
    QSs (cxOf CX0 P w K mg base ["letters", "long", "product", "step"] "power" (defScope s_p23) f cdv A outer s H E).nox (defBody s_p23) (rd_p23 K a) := by
  exact kss_cons (ks_set (i := 2) sc_p23.nd ke_int)
      (kss_cons (ks_for (ki_range1 T.n_range (ka_cons (kv 1) ka_nil)) (kg_name (i := 3) sc_p23.nd) (kss_one (ks_set (i := 2) sc_p23.nd (ke_op op_mulB (kv 2) (kv 0)))))
      (kss_one (ks_ret (kv 2))))
theorem sc_p13 : FnScope ["mark", "place"] ["mark", "place"] (defScope s_p13) := ⟨rfl, rfl, rfl, by decide +kernel, rfl, by decide +kernel, by decide +kernel⟩
def rd_p13 (K : PySem.W.Frag) (a : Ad) : TS :=
    tSeq (tIfS (tOr (tB (tIsN (tVar 0))) (tTest (tOp rGeI (tVar 1) (tCB rLenS (tCons (tVar 0) tNil))))) (tRet (tC (.int 0))) (tNext))
      (tRet (tBM K "str" rIndex (tC (.str (txt ABC))) (tCons (tOp rIxStr (tVar 0) (tVar 1)) tNil)))
theorem pr_p13 {P : Program} {w : World} {K : PySem.W.Frag} {mg : Str → Option Value} {base : Heap} {a : Ad} (T : Tx K mg a) {f : Addr} {cdv : Value} {A : Around} {outer : List Env} {s : Shared} {H : Hp} {E : XK} (hr : Room 0 (A.deeper (envOfC "figure_at" (defScope s_p13) s.heap.objs.size f cdv))) :
    QSs (cxOf CX0 P w K mg base ["mark", "place"] "figure_at" (defScope s_p13) f cdv A outer s H E).nox (defBody s_p13) (rd_p13 K a) := by
  exact kss_cons (ks_if (kt_w (kw_or (kt_isN (kv 0)) (kw_or1 (kt_cmp op_ge (kv 1) (ke_callB call_lenS T.n_len PyProof.Rows.Boot.«len» (ka_cons (kv 0) ka_nil)))))) (kss_one (ks_ret ke_int)) (kss_nil))
      (kss_one (ks_ret (ke_bm PySem.F.plainAttrs_str PySem.F.slot_str_index PySem.F.type_str_index mt_index (ke_gstr T.c_SMALL small_eq) (ka_cons (ke_ix ix_strL (kv 0) (kv 1)) ka_nil))))
theorem sc_p26 : FnScope ["letters", "mark", "long", "whole", "place"] ["letters", "mark", "long"] (defScope s_p26) := ⟨rfl, rfl, rfl, by decide +kernel, rfl, by decide +kernel, by decide +kernel⟩
def rd_p26 (K : PySem.W.Frag) (a : Ad) : TS :=
    tSeq (tAsg (tC (.int 0)) (gName 3))
      (tSeq (tFor (iRng1 (tCons (tVar 2) tNil)) (gName 4) (tAsg (tOp rAddI (tOp rMulI (tVar 3) (tVar 0)) (tCall spFig [] E0 (tCons (tVar 1) (tCons (tVar 4) tNil)))) (gName 3)))
      (tRet (tVar 3)))
theorem pr_p26 {P : Program} {w : World} {K : PySem.W.Frag} {mg : Str → Option Value} {base : Heap} {a : Ad} (T : Tx K mg a) (G_p13 : FnOk P w K mg base CX0 1 a.f_p13 a.fd_p13 ["mark", "place"] spFig) {f : Addr} {cdv : Value} {A : Around} {outer : List Env} {s : Shared} {H : Hp} {E : XK} (hr : Room 1 (A.deeper (envOfC "whole_of" (defScope s_p26) s.heap.objs.size f cdv))) :
    QSs (cxOf CX0 P w K mg base ["letters", "mark", "long", "whole", "place"] "whole_of" (defScope s_p26) f cdv A outer s H E).nox (defBody s_p26) (rd_p26 K a) := by
  exact kss_cons (ks_set (i := 3) sc_p26.nd ke_int)
      (kss_cons (ks_for (ki_range1 T.n_range (ka_cons (kv 2) ka_nil)) (kg_name (i := 4) sc_p26.nd) (kss_one (ks_set (i := 3) sc_p26.nd (ke_op op_add (ke_op op_mulB (kv 3) (kv 0)) (ke_call G_p13 (by exact hr.mono (by decide)) T.g_p13 T.F_p13.kp T.b_p13 pass0 (ka_cons (kv 1) (ka_cons (kv 4) ka_nil)))))))
      (kss_one (ks_ret (kv 3))))
theorem sc_p18 : FnScope ["letters", "number", "long", "text", "rest", "step"] ["letters", "number", "long"] (defScope s_p18) := ⟨rfl, rfl, rfl, by decide +kernel, rfl, by decide +kernel, by decide +kernel⟩
def rd_p18 (K : PySem.W.Frag) (a : Ad) : TS :=
    tSeq (tAsg (tC (.str (txt []))) (gName 3))
      (tSeq (tAsg (tVar 1) (gName 4))
      (tSeq (tFor (iRng1 (tCons (tVar 2) tNil)) (gName 5) (tSeq (tAsg (tOp rAddS (tOp rIxStr (tC (.str (txt ABC))) (tOp rModI (tVar 4) (tVar 0))) (tVar 3)) (gName 3))
      (tAsg (tOp rDivI (tVar 4) (tVar 0)) (gName 4))))
      (tRet (tBM K "str" rRstrip (tVar 3) (tCons (tC (.str (txt [97]))) tNil)))))
theorem pr_p18 {P : Program} {w : World} {K : PySem.W.Frag} {mg : Str → Option Value} {base : Heap} {a : Ad} (T : Tx K mg a) {f : Addr} {cdv : Value} {A : Around} {outer : List Env} {s : Shared} {H : Hp} {E : XK} (hr : Room 0 (A.deeper (envOfC "mark_of" (defScope s_p18) s.heap.objs.size f cdv))) :
    QSs (cxOf CX0 P w K mg base ["letters", "number", "long", "text", "rest", "step"] "mark_of" (defScope s_p18) f cdv A outer s H E).nox (defBody s_p18) (rd_p18 K a) := by
  exact kss_cons (ks_set (i := 3) sc_p18.nd (ke_txt (by kernel_rfl)))
      (kss_cons (ks_set (i := 4) sc_p18.nd (kv 1))
      (kss_cons (ks_for (ki_range1 T.n_range (ka_cons (kv 2) ka_nil)) (kg_name (i := 5) sc_p18.nd) (kss_cons (ks_set (i := 3) sc_p18.nd (ke_op op_addS (ke_ix ix_strL (ke_gstr T.c_SMALL small_eq) (ke_op op_mod (kv 4) (kv 0))) (kv 3)))
      (kss_one (ks_set (i := 4) sc_p18.nd (ke_op op_fdiv (kv 4) (kv 0))))))
      (kss_one (ks_ret (ke_bm PySem.F.plainAttrs_str PySem.F.slot_str_rstrip PySem.F.type_str_rstrip mt_rstrip (kv 3) (ka_cons (ke_txt (by kernel_rfl)) ka_nil))))))
theorem sc_p12 : FnScope ["letters", "hands", "hand"] ["letters", "hands", "hand"] (defScope s_p12) := ⟨rfl, rfl, rfl, by decide +kernel, rfl, by decide +kernel, by decide +kernel⟩
def rd_p12 (K : PySem.W.Frag) (a : Ad) : TS :=
    tRet (tBM K "str" (rJoin K) (tC (.str (txt []))) (tCons (tComp (iRng2 (tCons (tC (.int 1)) (tCons (tVar 0) tNil))) [2, 1] (tTest (tOp rEq (tOp rModI (tOp rSubI (tVar 0) (tC (.int 1))) (tVar 2)) (tVar 1))) (tOp rIxStr (tC (.str (txt ABC))) (tVar 0))) tNil))
theorem pr_p12 {P : Program} {w : World} {K : PySem.W.Frag} {mg : Str → Option Value} {base : Heap} {a : Ad} (T : Tx K mg a) {f : Addr} {cdv : Value} {A : Around} {outer : List Env} {s : Shared} {H : Hp} {E : XK} (hr : Room 0 (A.deeper (envOfC "ends_of" (defScope s_p12) s.heap.objs.size f cdv))) :
    QSs (cxOf CX0 P w K mg base ["letters", "hands", "hand"] "ends_of" (defScope s_p12) f cdv A outer s H E).nox (defBody s_p12) (rd_p12 K a) := by
  exact kss_one (ks_ret (ke_bm PySem.F.plainAttrs_str PySem.F.slot_str_join PySem.F.type_str_join mt_join (ke_txt (by kernel_rfl)) (ka_cons (ke_comp [("hand", 2), ("hands", 1)] (ki_range2 T.n_range (ka_cons ke_int (ka_cons (kv 0) ka_nil))) (fun _ _ _ _ _ => ⟨kts_one (kt_cmp op_eq (ke_op op_mod (ke_op op_sub (kv 0) ke_int) (kvc 2)) (kvc 1)), ke_ix ix_strL (ke_gstr T.c_SMALL small_eq) (kv 0)⟩)) ka_nil)))
theorem sc_p8 : FnScope ["low", "high"] ["low", "high"] (defScope s_p8) := ⟨rfl, rfl, rfl, by decide +kernel, rfl, by decide +kernel, by decide +kernel⟩
def rd_p8 (K : PySem.W.Frag) (a : Ad) (E : XK) : TS :=
    tIfS (tAnd (tB (tNotN (tVar 0))) (tAnd (tB (tNotN (tVar 1))) (tTest (tOp rGeS (tVar 0) (tVar 1))))) (tRaise (.ref a.c_NoRoom) E (tCons (tC (.str (txt [108, 111, 119, 32, 100, 111, 101, 115, 32, 110, 111, 116, 32, 99, 111, 109, 101, 32, 97, 104, 101, 97, 100, 32, 111, 102, 32, 104, 105, 103, 104]))) tNil)) (tNext)
theorem pr_p8 {P : Program} {w : World} {K : PySem.W.Frag} {mg : Str → Option Value} {base : Heap} {a : Ad} (T : Tx K mg a) {f : Addr} {cdv : Value} {A : Around} {outer : List Env} {s : Shared} {H : Hp} {E : XK} (hr : Room 0 (A.deeper (envOfC "ask_room" (defScope s_p8) s.heap.objs.size f cdv))) :
    QSs (cxOf (CX1 P w) P w K mg base ["low", "high"] "ask_room" (defScope s_p8) f cdv A outer s H E) (defBody s_p8) (rd_p8 K a E) := by
  exact kss_one (ks_if (kt_w (kw_and (kt_notN (kv 0)) (kw_and (kt_notN (kv 1)) (kw_and1 (kt_cmp op_geS (kv 0) (kv 1)))))) (kss_one (ks_raise PySem.F.excBase_ValueError T.x_NoRoom T.m_NoRoom (ka_cons (ke_txt (by kernel_rfl)) ka_nil) (fun _ _ _ _ _ _ _ I m q => made_def I m q))) (kss_nil))
theorem sc_p15 : FnScope ["letters", "high", "long"] ["letters", "high", "long"] (defScope s_p15) := ⟨rfl, rfl, rfl, by decide +kernel, rfl, by decide +kernel, by decide +kernel⟩
def rd_p15 (K : PySem.W.Frag) (a : Ad) : TS :=
    tSeq (tIfS (tB (tIsN (tVar 1))) (tRet (tCall spPower [] E0 (tCons (tVar 0) (tCons (tVar 2) tNil)))) (tNext))
      (tRet (tCall spWhole [] E0 (tCons (tVar 0) (tCons (tVar 1) (tCons (tVar 2) tNil)))))
theorem pr_p15 {P : Program} {w : World} {K : PySem.W.Frag} {mg : Str → Option Value} {base : Heap} {a : Ad} (T : Tx K mg a) (G_p23 : FnOk P w K mg base CX0 1 a.f_p23 a.fd_p23 ["letters", "long"] spPower) (G_p26 : FnOk P w K mg base CX0 2 a.f_p26 a.fd_p26 ["letters", "mark", "long"] spWhole) {f : Addr} {cdv : Value} {A : Around} {outer : List Env} {s : Shared} {H : Hp} {E : XK} (hr : Room 2 (A.deeper (envOfC "high_whole_of" (defScope s_p15) s.heap.objs.size f cdv))) :
    QSs (cxOf CX0 P w K mg base ["letters", "high", "long"] "high_whole_of" (defScope s_p15) f cdv A outer s H E).nox (defBody s_p15) (rd_p15 K a) := by
  exact kss_cons (ks_if (kt_isN (kv 1)) (kss_one (ks_ret (ke_call G_p23 (by exact hr.mono (by decide)) T.g_p23 T.F_p23.kp T.b_p23 pass0 (ka_cons (kv 0) (ka_cons (kv 2) ka_nil))))) (kss_nil))
      (kss_one (ks_ret (ke_call G_p26 (by exact hr.mono (by decide)) T.g_p26 T.F_p26.kp T.b_p26 pass0 (ka_cons (kv 0) (ka_cons (kv 1) (ka_cons (kv 2) ka_nil))))))
theorem sc_p21 : FnScope ["letters", "ends", "number", "lesser"] ["letters", "ends", "number"] (defScope s_p21) := ⟨rfl, rfl, rfl, by decide +kernel, rfl, by decide +kernel, by decide +kernel⟩
def rd_p21 (K : PySem.W.Frag) (a : Ad) : TS :=
    tSeq (tCompSet 3 (iStr (tVar 1)) [2, 0] (tTest (tOp rLtS (tVar 0) (tOp rIxStr (tC (.str (txt ABC))) (tOp rModI (tVar 1) (tVar 2))))) (tVar 0))
      (tRet (tOp rAddI (tOp rMulI (tOp rDivI (tVar 2) (tVar 0)) (tCB rLenS (tCons (tVar 1) tNil))) (tCB (rLenL K) (tCons (tVar 3) tNil))))
theorem pr_p21 {P : Program} {w : World} {K : PySem.W.Frag} {mg : Str → Option Value} {base : Heap} {a : Ad} (T : Tx K mg a) {f : Addr} {cdv : Value} {A : Around} {outer : List Env} {s : Shared} {H : Hp} {E : XK} (hr : Room 0 (A.deeper (envOfC "owned_below" (defScope s_p21) s.heap.objs.size f cdv))) :
    QSs (cxOf CX0 P w K mg base ["letters", "ends", "number", "lesser"] "owned_below" (defScope s_p21) f cdv A outer s H E).nox (defBody s_p21) (rd_p21 K a) := by
  exact kss_cons (ks_comp (i := 3) [("number", 2), ("letters", 0)] sc_p21.nd (ki_str (kv 1)) (fun _ _ _ _ _ => ⟨kts_one (kt_cmp op_ltS (kv 0) (ke_ix ix_strL (ke_gstr T.c_SMALL small_eq) (ke_op op_mod (kvc 1) (kvc 2)))), kv 0⟩))
      (kss_one (ks_ret (ke_op op_add (ke_op op_mulB (ke_op op_fdiv (kvc 2) (kvc 0)) (ke_callB call_lenS T.n_len PyProof.Rows.Boot.«len» (ka_cons (kv 1) ka_nil))) (ke_callB call_len_seq T.n_len PyProof.Rows.Boot.«len» (ka_cons (kv 3) ka_nil)))))
theorem sc_p22 : FnScope ["letters", "ends", "low_whole"] ["letters", "ends", "low_whole"] (defScope s_p22) := ⟨rfl, rfl, rfl, by decide +kernel, rfl, by decide +kernel, by decide +kernel⟩
def rd_p22 (K : PySem.W.Frag) (a : Ad) : TS :=
    tRet (tCall spBelow [] E0 (tCons (tVar 0) (tCons (tVar 1) (tCons (tOp rAddI (tVar 2) (tC (.int 1))) tNil))))
theorem pr_p22 {P : Program} {w : World} {K : PySem.W.Frag} {mg : Str → Option Value} {base : Heap} {a : Ad} (T : Tx K mg a) (G_p21 : FnOk P w K mg base CX0 1 a.f_p21 a.fd_p21 ["letters", "ends", "number"] spBelow) {f : Addr} {cdv : Value} {A : Around} {outer : List Env} {s : Shared} {H : Hp} {E : XK} (hr : Room 1 (A.deeper (envOfC "owned_up_to_low" (defScope s_p22) s.heap.objs.size f cdv))) :
    QSs (cxOf CX0 P w K mg base ["letters", "ends", "low_whole"] "owned_up_to_low" (defScope s_p22) f cdv A outer s H E).nox (defBody s_p22) (rd_p22 K a) := by
  exact kss_one (ks_ret (ke_call G_p21 (by exact hr.mono (by decide)) T.g_p21 T.F_p21.kp T.b_p21 pass0 (ka_cons (kv 0) (ka_cons (kv 1) (ka_cons (ke_op op_add (kv 2) ke_int) ka_nil)))))
theorem sc_p20 : FnScope ["letters", "ends", "high", "high_whole", "long", "beginnings"] ["letters", "ends", "high", "high_whole", "long", "beginnings"] (defScope s_p20) := ⟨rfl, rfl, rfl, by decide +kernel, rfl, by decide +kernel, by decide +kernel⟩
def rd_p20 (K : PySem.W.Frag) (a : Ad) : TS :=
    tSeq (tIfS (tAnd (tB (tVar 5)) (tAnd (tB (tNotN (tVar 2))) (tTest (tOp rLtI (tVar 4) (tCB rLenS (tCons (tVar 2) tNil)))))) (tRet (tCall spBelow [] E0 (tCons (tVar 0) (tCons (tVar 1) (tCons (tOp rAddI (tVar 3) (tC (.int 1))) tNil))))) (tNext))
      (tRet (tCall spBelow [] E0 (tCons (tVar 0) (tCons (tVar 1) (tCons (tVar 3) tNil)))))
theorem pr_p20 {P : Program} {w : World} {K : PySem.W.Frag} {mg : Str → Option Value} {base : Heap} {a : Ad} (T : Tx K mg a) (G_p21 : FnOk P w K mg base CX0 1 a.f_p21 a.fd_p21 ["letters", "ends", "number"] spBelow) {f : Addr} {cdv : Value} {A : Around} {outer : List Env} {s : Shared} {H : Hp} {E : XK} (hr : Room 1 (A.deeper (envOfC "owned_ahead_of_high" (defScope s_p20) s.heap.objs.size f cdv))) :
    QSs (cxOf CX0 P w K mg base ["letters", "ends", "high", "high_whole", "long", "beginnings"] "owned_ahead_of_high" (defScope s_p20) f cdv A outer s H E).nox (defBody s_p20) (rd_p20 K a) := by
  exact kss_cons (ks_if (kt_w (kw_and (kt_val (kv 5)) (kw_and (kt_notN (kv 2)) (kw_and1 (kt_cmp op_lt (kv 4) (ke_callB call_lenS T.n_len PyProof.Rows.Boot.«len» (ka_cons (kv 2) ka_nil))))))) (kss_one (ks_ret (ke_call G_p21 (by exact hr.mono (by decide)) T.g_p21 T.F_p21.kp T.b_p21 pass0 (ka_cons (kv 0) (ka_cons (kv 1) (ka_cons (ke_op op_add (kv 3) ke_int) ka_nil)))))) (kss_nil))
      (kss_one (ks_ret (ke_call G_p21 (by exact hr.mono (by decide)) T.g_p21 T.F_p21.kp T.b_p21 pass0 (ka_cons (kv 0) (ka_cons (kv 1) (ka_cons (kv 3) ka_nil))))))
theorem sc_p11 : FnScope ["letters", "ends", "low", "high", "long", "beginnings", "low_whole", "high_whole", "ahead"] ["letters", "ends", "low", "high", "long", "beginnings"] (defScope s_p11) := ⟨rfl, rfl, rfl, by decide +kernel, rfl, by decide +kernel, by decide +kernel⟩
def rd_p11 (K : PySem.W.Frag) (a : Ad) : TS :=
    tSeq (tAsg (tCall spWhole [] E0 (tCons (tVar 0) (tCons (tVar 2) (tCons (tVar 4) tNil)))) (gName 6))
      (tSeq (tAsg (tCall spHigh [] E0 (tCons (tVar 0) (tCons (tVar 3) (tCons (tVar 4) tNil)))) (gName 7))
      (tSeq (tAsg (tCall spAhead [] E0 (tCons (tVar 0) (tCons (tVar 1) (tCons (tVar 3) (tCons (tVar 7) (tCons (tVar 4) (tCons (tVar 5) tNil))))))) (gName 8))
      (tRet (tOp rSubI (tVar 8) (tCall spUpLow [] E0 (tCons (tVar 0) (tCons (tVar 1) (tCons (tVar 6) tNil))))))))
theorem pr_p11 {P : Program} {w : World} {K : PySem.W.Frag} {mg : Str → Option Value} {base : Heap} {a : Ad} (T : Tx K mg a) (G_p26 : FnOk P w K mg base CX0 2 a.f_p26 a.fd_p26 ["letters", "mark", "long"] spWhole) (G_p15 : FnOk P w K mg base CX0 3 a.f_p15 a.fd_p15 ["letters", "high", "long"] spHigh) (G_p20 : FnOk P w K mg base CX0 2 a.f_p20 a.fd_p20 ["letters", "ends", "high", "high_whole", "long", "beginnings"] spAhead) (G_p22 : FnOk P w K mg base CX0 2 a.f_p22 a.fd_p22 ["letters", "ends", "low_whole"] spUpLow) {f : Addr} {cdv : Value} {A : Around} {outer : List Env} {s : Shared} {H : Hp} {E : XK} (hr : Room 3 (A.deeper (envOfC "counted_at" (defScope s_p11) s.heap.objs.size f cdv))) :
    QSs (cxOf CX0 P w K mg base ["letters", "ends", "low", "high", "long", "beginnings", "low_whole", "high_whole", "ahead"] "counted_at" (defScope s_p11) f cdv A outer s H E).nox (defBody s_p11) (rd_p11 K a) := by
  exact kss_cons (ks_set (i := 6) sc_p11.nd (ke_call G_p26 (by exact hr.mono (by decide)) T.g_p26 T.F_p26.kp T.b_p26 pass0 (ka_cons (kv 0) (ka_cons (kv 2) (ka_cons (kv 4) ka_nil)))))
      (kss_cons (ks_set (i := 7) sc_p11.nd (ke_call G_p15 (by exact hr.mono (by decide)) T.g_p15 T.F_p15.kp T.b_p15 pass0 (ka_cons (kv 0) (ka_cons (kv 3) (ka_cons (kv 4) ka_nil)))))
      (kss_cons (ks_set (i := 8) sc_p11.nd (ke_call G_p20 (by exact hr.mono (by decide)) T.g_p20 T.F_p20.kp T.b_p20 pass0 (ka_cons (kv 0) (ka_cons (kv 1) (ka_cons (kv 3) (ka_cons (kv 7) (ka_cons (kv 4) (ka_cons (kv 5) ka_nil))))))))
      (kss_one (ks_ret (ke_op op_sub (kv 8) (ke_call G_p22 (by exact hr.mono (by decide)) T.g_p22 T.F_p22.kp T.b_p22 pass0 (ka_cons (kv 0) (ka_cons (kv 1) (ka_cons (kv 6) ka_nil)))))))))
theorem sc_p19 : FnScope ["letters", "hands", "hand", "low", "high", "long", "number", "ends", "low_whole", "place", "last"] ["letters", "hands", "hand", "low", "high", "long", "number"] (defScope s_p19) := ⟨rfl, rfl, rfl, by decide +kernel, rfl, by decide +kernel, by decide +kernel⟩
def rd_p19 (K : PySem.W.Frag) (a : Ad) (E : XK) : TS :=
    tSeq (tDrop (tCall (spAskRoom a.c_NoRoom) [] E (tCons (tVar 3) (tCons (tVar 4) tNil))))
      (tSeq (tAsg (tCall spEnds [] E0 (tCons (tVar 0) (tCons (tVar 1) (tCons (tVar 2) tNil)))) (gName 7))
      (tSeq (tAsg (tCall spWhole [] E0 (tCons (tVar 0) (tCons (tVar 3) (tCons (tVar 5) tNil)))) (gName 8))
      (tSeq (tAsg (tOp rAddI (tCall spUpLow [] E0 (tCons (tVar 0) (tCons (tVar 7) (tCons (tVar 8) tNil)))) (tVar 6)) (gName 9))
      (tSeq (tAsg (tBM K "str" rIndex (tC (.str (txt ABC))) (tCons (tOp rIxStr (tVar 7) (tOp rModI (tVar 9) (tCB rLenS (tCons (tVar 7) tNil)))) tNil)) (gName 10))
      (tRet (tCall spMarkOf [] E0 (tCons (tVar 0) (tCons (tOp rAddI (tOp rMulI (tOp rDivI (tVar 9) (tCB rLenS (tCons (tVar 7) tNil))) (tVar 0)) (tVar 10)) (tCons (tVar 5) tNil)))))))))
theorem pr_p19 {P : Program} {w : World} {K : PySem.W.Frag} {mg : Str → Option Value} {base : Heap} {a : Ad} (T : Tx K mg a) (G_p8 : FnOk P w K mg base (CX1 P w) 1 a.f_p8 a.fd_p8 ["low", "high"] (spAskRoom a.c_NoRoom)) (G_p12 : FnOk P w K mg base CX0 1 a.f_p12 a.fd_p12 ["letters", "hands", "hand"] spEnds) (G_p26 : FnOk P w K mg base CX0 2 a.f_p26 a.fd_p26 ["letters", "mark", "long"] spWhole) (G_p22 : FnOk P w K mg base CX0 2 a.f_p22 a.fd_p22 ["letters", "ends", "low_whole"] spUpLow) (G_p18 : FnOk P w K mg base CX0 1 a.f_p18 a.fd_p18 ["letters", "number", "long"] spMarkOf) {f : Addr} {cdv : Value} {A : Around} {outer : List Env} {s : Shared} {H : Hp} {E : XK} (hr : Room 2 (A.deeper (envOfC "nth_mark" (defScope s_p19) s.heap.objs.size f cdv))) :
    QSs (cxOf (CX1 P w) P w K mg base ["letters", "hands", "hand", "low", "high", "long", "number", "ends", "low_whole", "place", "last"] "nth_mark" (defScope s_p19) f cdv A outer s H E) (defBody s_p19) (rd_p19 K a E) := by
  exact kss_cons (ks_expr (ke_call G_p8 (by exact hr.mono (by decide)) T.g_p8 T.F_p8.kp T.b_p8 pass_def (ka_cons (kv 3) (ka_cons (kv 4) ka_nil))))
      (kss_cons (ks_nox (ks_set (i := 7) sc_p19.nd (ke_call G_p12 (by exact hr.mono (by decide)) T.g_p12 T.F_p12.kp T.b_p12 pass0 (ka_cons (kv 0) (ka_cons (kv 1) (ka_cons (kv 2) ka_nil))))))
      (kss_cons (ks_nox (ks_set (i := 8) sc_p19.nd (ke_call G_p26 (by exact hr.mono (by decide)) T.g_p26 T.F_p26.kp T.b_p26 pass0 (ka_cons (kv 0) (ka_cons (kv 3) (ka_cons (kv 5) ka_nil))))))
      (kss_cons (ks_nox (ks_set (i := 9) sc_p19.nd (ke_op op_add (ke_call G_p22 (by exact hr.mono (by decide)) T.g_p22 T.F_p22.kp T.b_p22 pass0 (ka_cons (kv 0) (ka_cons (kv 7) (ka_cons (kv 8) ka_nil)))) (kv 6))))
      (kss_cons (ks_nox (ks_set (i := 10) sc_p19.nd (ke_bm PySem.F.plainAttrs_str PySem.F.slot_str_index PySem.F.type_str_index mt_index (ke_gstr T.c_SMALL small_eq) (ka_cons (ke_ix ix_strL (kv 7) (ke_op op_mod (kv 9) (ke_callB call_lenS T.n_len PyProof.Rows.Boot.«len» (ka_cons (kv 7) ka_nil)))) ka_nil))))
      (kss_one (ks_nox (ks_ret (ke_call G_p18 (by exact hr.mono (by decide)) T.g_p18 T.F_p18.kp T.b_p18 pass0 (ka_cons (kv 0) (ka_cons (ke_op op_add (ke_op op_mulB (ke_op op_fdiv (kv 9) (ke_callB call_lenS T.n_len PyProof.Rows.Boot.«len» (ka_cons (kv 7) ka_nil))) (kv 0)) (kv 10)) (ka_cons (kv 5) ka_nil)))))))))))
theorem sc_p17 : FnScope ["letters", "ends", "low", "high", "many", "beginnings", "long", "room", "low_whole", "high_whole", "ahead"] ["letters", "ends", "low", "high", "many", "beginnings"] (defScope s_p17) := ⟨rfl, rfl, rfl, by decide +kernel, rfl, by decide +kernel, by decide +kernel⟩
def rd_p17 (K : PySem.W.Frag) (a : Ad) : TS :=
    tSeq (tAsg (tC (.int 0)) (gName 6))
      (tSeq (tAsg (tC (.int 0)) (gName 7))
      (tSeq (tAsg (tC (.int 0)) (gName 8))
      (tSeq (tAsg (tCall spHigh [] E0 (tCons (tVar 0) (tCons (tVar 3) (tCons (tC (.int 0)) tNil)))) (gName 9))
      (tSeq (tWhile (tTest (tOp rLtI (tVar 7) (tVar 4))) (tSeq (tAsg (tOp rAddI (tOp rMulI (tVar 8) (tVar 0)) (tCall spFig [] E0 (tCons (tVar 2) (tCons (tVar 6) tNil)))) (gName 8))
      (tSeq (tAsg (tOp rAddI (tOp rMulI (tVar 9) (tVar 0)) (tCall spFig [] E0 (tCons (tVar 3) (tCons (tVar 6) tNil)))) (gName 9))
      (tSeq (tAsg (tOp rAddI (tVar 6) (tC (.int 1))) (gName 6))
      (tSeq (tAsg (tCall spAhead [] E0 (tCons (tVar 0) (tCons (tVar 1) (tCons (tVar 3) (tCons (tVar 9) (tCons (tVar 6) (tCons (tVar 5) tNil))))))) (gName 10))
      (tAsg (tOp rSubI (tVar 10) (tCall spUpLow [] E0 (tCons (tVar 0) (tCons (tVar 1) (tCons (tVar 8) tNil))))) (gName 7)))))))
      (tRet (tVar 6))))))
theorem pr_p17 {P : Program} {w : World} {K : PySem.W.Frag} {mg : Str → Option Value} {base : Heap} {a : Ad} (T : Tx K mg a) (G_p15 : FnOk P w K mg base CX0 3 a.f_p15 a.fd_p15 ["letters", "high", "long"] spHigh) (G_p13 : FnOk P w K mg base CX0 1 a.f_p13 a.fd_p13 ["mark", "place"] spFig) (G_p20 : FnOk P w K mg base CX0 2 a.f_p20 a.fd_p20 ["letters", "ends", "high", "high_whole", "long", "beginnings"] spAhead) (G_p22 : FnOk P w K mg base CX0 2 a.f_p22 a.fd_p22 ["letters", "ends", "low_whole"] spUpLow) {f : Addr} {cdv : Value} {A : Around} {outer : List Env} {s : Shared} {H : Hp} {E : XK} (hr : Room 3 (A.deeper (envOfC "least_counted" (defScope s_p17) s.heap.objs.size f cdv))) :
    QSs (cxOf CX0 P w K mg base ["letters", "ends", "low", "high", "many", "beginnings", "long", "room", "low_whole", "high_whole", "ahead"] "least_counted" (defScope s_p17) f cdv A outer s H E).nox (defBody s_p17) (rd_p17 K a) := by
  exact kss_cons (ks_set (i := 6) sc_p17.nd ke_int)
      (kss_cons (ks_set (i := 7) sc_p17.nd ke_int)
      (kss_cons (ks_set (i := 8) sc_p17.nd ke_int)
      (kss_cons (ks_set (i := 9) sc_p17.nd (ke_call G_p15 (by exact hr.mono (by decide)) T.g_p15 T.F_p15.kp T.b_p15 pass0 (ka_cons (kv 0) (ka_cons (kv 3) (ka_cons ke_int ka_nil)))))
      (kss_cons (ks_while (kt_cmp op_lt (kv 7) (kv 4)) (kss_cons (ks_set (i := 8) sc_p17.nd (ke_op op_add (ke_op op_mulB (kv 8) (kv 0)) (ke_call G_p13 (by exact hr.mono (by decide)) T.g_p13 T.F_p13.kp T.b_p13 pass0 (ka_cons (kv 2) (ka_cons (kv 6) ka_nil)))))
      (kss_cons (ks_set (i := 9) sc_p17.nd (ke_op op_add (ke_op op_mulB (kv 9) (kv 0)) (ke_call G_p13 (by exact hr.mono (by decide)) T.g_p13 T.F_p13.kp T.b_p13 pass0 (ka_cons (kv 3) (ka_cons (kv 6) ka_nil)))))
      (kss_cons (ks_set (i := 6) sc_p17.nd (ke_op op_add (kv 6) ke_int))
      (kss_cons (ks_set (i := 10) sc_p17.nd (ke_call G_p20 (by exact hr.mono (by decide)) T.g_p20 T.F_p20.kp T.b_p20 pass0 (ka_cons (kv 0) (ka_cons (kv 1) (ka_cons (kv 3) (ka_cons (kv 9) (ka_cons (kv 6) (ka_cons (kv 5) ka_nil))))))))
      (kss_one (ks_set (i := 7) sc_p17.nd (ke_op op_sub (kv 10) (ke_call G_p22 (by exact hr.mono (by decide)) T.g_p22 T.F_p22.kp T.b_p22 pass0 (ka_cons (kv 0) (ka_cons (kv 1) (ka_cons (kv 8) ka_nil))))))))))))
      (kss_one (ks_ret (kv 6)))))))
theorem sc_p25 : FnScope ["letters", "low", "high", "ends", "long", "many"] ["letters", "low", "high"] (defScope s_p25) := ⟨rfl, rfl, rfl, by decide +kernel, rfl, by decide +kernel, by decide +kernel⟩
def rd_p25 (K : PySem.W.Frag) (a : Ad) (E : XK) : TS :=
    tSeq (tDrop (tCall (spAskRoom a.c_NoRoom) [] E (tCons (tVar 1) (tCons (tVar 2) tNil))))
      (tSeq (tAsg (tCall spEnds [] E0 (tCons (tVar 0) (tCons (tC (.int 1)) (tCons (tC (.int 0)) tNil)))) (gName 3))
      (tSeq (tAsg (tCall spLeastC [] E0 (tCons (tVar 0) (tCons (tVar 3) (tCons (tVar 1) (tCons (tVar 2) (tCons (tC (.int 1)) (tCons (tC (.bl false)) tNil))))))) (gName 4))
      (tSeq (tAsg (tCall spCounted [] E0 (tCons (tVar 0) (tCons (tVar 3) (tCons (tVar 1) (tCons (tVar 2) (tCons (tVar 4) (tCons (tC (.bl false)) tNil))))))) (gName 5))
      (tRet (tCall (spNth a.c_NoRoom) [] E (tCons (tVar 0) (tCons (tC (.int 1)) (tCons (tC (.int 0)) (tCons (tVar 1) (tCons (tVar 2) (tCons (tVar 4) (tCons (tOp rDivI (tOp rSubI (tVar 5) (tC (.int 1))) (tC (.int 2))) tNil))))))))))))
theorem pr_p25 {P : Program} {w : World} {K : PySem.W.Frag} {mg : Str → Option Value} {base : Heap} {a : Ad} (T : Tx K mg a) (G_p8 : FnOk P w K mg base (CX1 P w) 1 a.f_p8 a.fd_p8 ["low", "high"] (spAskRoom a.c_NoRoom)) (G_p12 : FnOk P w K mg base CX0 1 a.f_p12 a.fd_p12 ["letters", "hands", "hand"] spEnds) (G_p17 : FnOk P w K mg base CX0 4 a.f_p17 a.fd_p17 ["letters", "ends", "low", "high", "many", "beginnings"] spLeastC) (G_p11 : FnOk P w K mg base CX0 4 a.f_p11 a.fd_p11 ["letters", "ends", "low", "high", "long", "beginnings"] spCounted) (G_p19 : FnOk P w K mg base (CX1 P w) 3 a.f_p19 a.fd_p19 ["letters", "hands", "hand", "low", "high", "long", "number"] (spNth a.c_NoRoom)) {f : Addr} {cdv : Value} {A : Around} {outer : List Env} {s : Shared} {H : Hp} {E : XK} (hr : Room 4 (A.deeper (envOfC "stem_between" (defScope s_p25) s.heap.objs.size f cdv))) :
    QSs (cxOf (CX1 P w) P w K mg base ["letters", "low", "high", "ends", "long", "many"] "stem_between" (defScope s_p25) f cdv A outer s H E) (defBody s_p25) (rd_p25 K a E) := by
  exact kss_cons (ks_expr (ke_call G_p8 (by exact hr.mono (by decide)) T.g_p8 T.F_p8.kp T.b_p8 pass_def (ka_cons (kv 1) (ka_cons (kv 2) ka_nil))))
      (kss_cons (ks_nox (ks_set (i := 3) sc_p25.nd (ke_call G_p12 (by exact hr.mono (by decide)) T.g_p12 T.F_p12.kp T.b_p12 pass0 (ka_cons (kv 0) (ka_cons ke_int (ka_cons ke_int ka_nil))))))
      (kss_cons (ks_nox (ks_set (i := 4) sc_p25.nd (ke_call G_p17 (by exact hr.mono (by decide)) T.g_p17 T.F_p17.kp T.b_p17 pass0 (ka_cons (kv 0) (ka_cons (kv 3) (ka_cons (kv 1) (ka_cons (kv 2) (ka_cons ke_int (ka_cons ke_bl ka_nil)))))))))
      (kss_cons (ks_nox (ks_set (i := 5) sc_p25.nd (ke_call G_p11 (by exact hr.mono (by decide)) T.g_p11 T.F_p11.kp T.b_p11 pass0 (ka_cons (kv 0) (ka_cons (kv 3) (ka_cons (kv 1) (ka_cons (kv 2) (ka_cons (kv 4) (ka_cons ke_bl ka_nil)))))))))
      (kss_one (ks_ret (ke_call G_p19 (by exact hr.mono (by decide)) T.g_p19 T.F_p19.kp T.b_p19 pass_def (ka_cons (kv 0) (ka_cons ke_int (ka_cons ke_int (ka_cons (kv 1) (ka_cons (kv 2) (ka_cons (kv 4) (ka_cons (ke_op op_fdiv (ke_op op_sub (kv 5) ke_int) ke_int) ka_nil)))))))))))))
theorem sc_p24 : FnScope ["rows", "mark", "first", "last", "middle"] ["rows", "mark"] (defScope s_p24) := ⟨rfl, rfl, rfl, by decide +kernel, rfl, by decide +kernel, by decide +kernel⟩
def rd_p24 (K : PySem.W.Frag) (a : Ad) : TS :=
    tSeq (tAsg (tC (.int 0)) (gName 2))
      (tSeq (tAsg (tCB (rLenL K) (tCons (tVar 0) tNil)) (gName 3))
      (tSeq (tWhile (tTest (tOp rLtI (tVar 2) (tVar 3))) (tSeq (tAsg (tOp rDivI (tOp rAddI (tVar 2) (tVar 3)) (tC (.int 2))) (gName 4))
      (tIfS (tTest (tOp rLtS (tOp (rIxT K) (tOp (rIxL K) (tVar 0) (tVar 4)) (tC (.int 0))) (tVar 1))) (tAsg (tOp rAddI (tVar 4) (tC (.int 1))) (gName 2)) (tAsg (tVar 4) (gName 3)))))
      (tRet (tVar 2))))
theorem pr_p24 {P : Program} {w : World} {K : PySem.W.Frag} {mg : Str → Option Value} {base : Heap} {a : Ad} (T : Tx K mg a) {f : Addr} {cdv : Value} {A : Around} {outer : List Env} {s : Shared} {H : Hp} {E : XK} (hr : Room 0 (A.deeper (envOfC "rows_ahead" (defScope s_p24) s.heap.objs.size f cdv))) :
    QSs (cxOf CX0 P w K mg base ["rows", "mark", "first", "last", "middle"] "rows_ahead" (defScope s_p24) f cdv A outer s H E).nox (defBody s_p24) (rd_p24 K a) := by
  exact kss_cons (ks_set (i := 2) sc_p24.nd ke_int)
      (kss_cons (ks_set (i := 3) sc_p24.nd (ke_callB call_len_seq T.n_len PyProof.Rows.Boot.«len» (ka_cons (kv 0) ka_nil)))
      (kss_cons (ks_while (kt_cmp op_lt (kv 2) (kv 3)) (kss_cons (ks_set (i := 4) sc_p24.nd (ke_op op_fdiv (ke_op op_add (kv 2) (kv 3)) ke_int))
      (kss_one (ks_if (kt_cmp op_ltS (ke_ix ix_tup (ke_ix ix_list (kv 0) (kv 4)) ke_int) (kv 1)) (kss_one (ks_set (i := 2) sc_p24.nd (ke_op op_add (kv 4) ke_int))) (kss_one (ks_set (i := 3) sc_p24.nd (kv 4)))))))
      (kss_one (ks_ret (kv 2)))))
theorem sc_p14 : FnScope ["rows", "old", "new"] ["rows"] (defScope s_p14) := ⟨rfl, rfl, rfl, by decide +kernel, rfl, by decide +kernel, by decide +kernel⟩
def rd_p14 (K : PySem.W.Frag) (a : Ad) : TS :=
    tSeq (tFor (iList K (tVar 0)) (gTup K 2 (gCons (gName 1) (gCons (gName 2) gNil))) (tIfS (tB (tNotN (tVar 2))) (tRet (tVar 2)) (tNext)))
      (tRet (tC .non))
theorem pr_p14 {P : Program} {w : World} {K : PySem.W.Frag} {mg : Str → Option Value} {base : Heap} {a : Ad} (T : Tx K mg a) {f : Addr} {cdv : Value} {A : Around} {outer : List Env} {s : Shared} {H : Hp} {E : XK} (hr : Room 0 (A.deeper (envOfC "first_new" (defScope s_p14) s.heap.objs.size f cdv))) :
    QSs (cxOf CX0 P w K mg base ["rows", "old", "new"] "first_new" (defScope s_p14) f cdv A outer s H E).nox (defBody s_p14) (rd_p14 K a) := by
  exact kss_cons (ks_for (ki_list (kv 0)) (kg_tup (kgs_cons (kg_name (i := 1) sc_p14.nd) (kgs_cons (kg_name (i := 2) sc_p14.nd) kgs_nil))) (kss_one (ks_if (kt_notN (kv 2)) (kss_one (ks_ret (kv 2))) (kss_nil))))
      (kss_one (ks_ret ke_non))
theorem sc_p10 : FnScope ["letters", "rows", "mark", "stems", "place", "low", "high"] ["letters", "rows", "mark", "stems"] (defScope s_p10) := ⟨rfl, rfl, rfl, by decide +kernel, rfl, by decide +kernel, by decide +kernel⟩
def rd_p10 (K : PySem.W.Frag) (a : Ad) : TS :=
    tSeq (tAsg (tCall (spAheadR K) [] E0 (tCons (tVar 1) (tCons (tVar 2) tNil))) (gName 4))
      (tSeq (tIfS (tAnd (tTest (tOp rLtI (tVar 4) (tCB (rLenL K) (tCons (tVar 1) tNil)))) (tTest (tOp rEq (tOp (rIxT K) (tOp (rIxL K) (tVar 1) (tVar 4)) (tC (.int 0))) (tVar 2)))) (tRet (tOp (rIxT K) (tOp (rIxL K) (tVar 1) (tVar 4)) (tC (.int 1)))) (tNext))
      (tSeq (tAsg (tCall (spFirstN K) [] E0 (tCons (tListRev K (tCons (tSl (rSlL K) (tVar 1) tNoPart (tPart (tVar 4))) tNil)) tNil)) (gName 5))
      (tSeq (tAsg (tCall (spFirstN K) [] E0 (tCons (tSl (rSlL K) (tVar 1) (tPart (tVar 4)) tNoPart) tNil)) (gName 6))
      (tSeq (tIfS (tTest (tOp (rInD true) (tTup (tCons (tVar 5) (tCons (tVar 6) tNil))) (tVar 3))) (sDPut (tVar 3) (tTup (tCons (tVar 5) (tCons (tVar 6) tNil))) (tCall (spStem a.c_NoRoom) [] E0 (tCons (tVar 0) (tCons (tVar 5) (tCons (tVar 6) tNil))))) (tNext))
      (tRet (tOp rAddS (tDGet (tVar 3) (tTup (tCons (tVar 5) (tCons (tVar 6) tNil)))) (tVar 2)))))))
theorem pr_p10 {P : Program} {w : World} {K : PySem.W.Frag} {mg : Str → Option Value} {base : Heap} {a : Ad} (T : Tx K mg a) (G_p24 : FnOk P w K mg base CX0 1 a.f_p24 a.fd_p24 ["rows", "mark"] (spAheadR K)) (G_p14 : FnOk P w K mg base CX0 1 a.f_p14 a.fd_p14 ["rows"] (spFirstN K)) (G_p25 : FnOk P w K mg base (CX1 P w) 5 a.f_p25 a.fd_p25 ["letters", "low", "high"] (spStem a.c_NoRoom)) {f : Addr} {cdv : Value} {A : Around} {outer : List Env} {s : Shared} {H : Hp} {E : XK} (hr : Room 5 (A.deeper (envOfC "carried_knowing" (defScope s_p10) s.heap.objs.size f cdv))) :
    QSs (cxOf CX0 P w K mg base ["letters", "rows", "mark", "stems", "place", "low", "high"] "carried_knowing" (defScope s_p10) f cdv A outer s H E).nox (defBody s_p10) (rd_p10 K a) := by
  have hu := Room.units hr
  exact kss_cons (ks_set (i := 4) sc_p10.nd (ke_call G_p24 (by exact hr.mono (by decide)) T.g_p24 T.F_p24.kp T.b_p24 pass0 (ka_cons (kv 1) (ka_cons (kv 2) ka_nil))))
      (kss_cons (ks_if (kt_w (kw_and (kt_cmp op_lt (kv 4) (ke_callB call_len_seq T.n_len PyProof.Rows.Boot.«len» (ka_cons (kv 1) ka_nil))) (kw_and1 (kt_cmp op_eq (ke_ix ix_tup (ke_ix ix_list (kv 1) (kv 4)) ke_int) (kv 2))))) (kss_one (ks_ret (ke_ix ix_tup (ke_ix ix_list (kv 1) (kv 4)) ke_int))) (kss_nil))
      (kss_cons (ks_set (i := 5) sc_p10.nd (ke_call G_p14 (by exact hr.mono (by decide)) T.g_p14 T.F_p14.kp T.b_p14 pass0 (ka_cons (ke_listRev (by kernel_rfl) T.n_list T.n_reversed (ka_cons (ke_slice sl_list (kv 1) ko_none (ko_some (kv 4))) ka_nil)) ka_nil)))
      (kss_cons (ks_set (i := 6) sc_p10.nd (ke_call G_p14 (by exact hr.mono (by decide)) T.g_p14 T.F_p14.kp T.b_p14 pass0 (ka_cons (ke_slice sl_list (kv 1) (ko_some (kv 4)) ko_none) ka_nil)))
      (kss_cons (ks_if (kt_cmp (op_notInD hu) (ke_tup (ka_cons (kv 5) (ka_cons (kv 6) ka_nil))) (kv 3)) (kss_one (ks_dput hu (kv 3) (ke_tup (ka_cons (kv 5) (ka_cons (kv 6) ka_nil))) (ke_call G_p25 (by exact hr.mono (by decide)) T.g_p25 T.F_p25.kp T.b_p25 pass1 (ka_cons (kv 0) (ka_cons (kv 5) (ka_cons (kv 6) ka_nil)))))) (kss_nil))
      (kss_one (ks_ret (ke_op op_addS (ke_dget hu (kv 3) (ke_tup (ka_cons (kv 5) (ka_cons (kv 6) ka_nil)))) (kv 2))))))))
theorem sc_p9 : FnScope ["letters", "rows", "mark"] ["letters", "rows", "mark"] (defScope s_p9) := ⟨rfl, rfl, rfl, by decide +kernel, rfl, by decide +kernel, by decide +kernel⟩
def rd_p9 (K : PySem.W.Frag) (a : Ad) : TS :=
    tRet (tCall (spCarK K) [] E0 (tCons (tVar 0) (tCons (tVar 1) (tCons (tVar 2) (tCons tDNewT tNil)))))
theorem pr_p9 {P : Program} {w : World} {K : PySem.W.Frag} {mg : Str → Option Value} {base : Heap} {a : Ad} (T : Tx K mg a) (G_p10 : FnOk P w K mg base CX0 6 a.f_p10 a.fd_p10 ["letters", "rows", "mark", "stems"] (spCarK K)) {f : Addr} {cdv : Value} {A : Around} {outer : List Env} {s : Shared} {H : Hp} {E : XK} (hr : Room 6 (A.deeper (envOfC "carried" (defScope s_p9) s.heap.objs.size f cdv))) :
    QSs (cxOf CX0 P w K mg base ["letters", "rows", "mark"] "carried" (defScope s_p9) f cdv A outer s H E).nox (defBody s_p9) (rd_p9 K a) := by
  exact kss_one (ks_ret (ke_call G_p10 (by exact hr.mono (by decide)) T.g_p10 T.F_p10.kp T.b_p10 pass0 (ka_cons (kv 0) (ka_cons (kv 1) (ka_cons (kv 2) (ka_cons ke_dnewT ka_nil))))))
theorem sc_draw : FnScope ["_law_script", "_law_k", "_law_many", "_law_cell", "_law_j", "_law_seed"] ["_law_script", "_law_k", "_law_many"] (defScope s_draw) := ⟨rfl, rfl, rfl, by decide +kernel, rfl, by decide +kernel, by decide +kernel⟩
def rd_draw (K : PySem.W.Frag) (a : Ad) : TS :=
    tSeq (tAsg (tIf (tTest (tOp rGtI (tCB (rLenL K) (tCons (tVar 0) tNil)) (tC (.int 0)))) (tOp (rIxL K) (tVar 0) (tOp rModI (tVar 1) (tCB (rLenL K) (tCons (tVar 0) tNil)))) (tC (.int 0))) (gName 3))
      (tSeq (tIfS (tAnd (tTest (tOp rGtI (tCB (rLenL K) (tCons (tVar 0) tNil)) (tC (.int 0)))) (tTest (tOp rEq (tOp rModI (tOp rDivI (tOp (rIxL K) (tVar 0) (tC (.int 0))) (tC (.int 7))) (tC (.int 2))) (tC (.int 1))))) (tSeq (tFor (iRng1 (tCons (tOp rModI (tOp rDivI (tVar 1) (tCB (rLenL K) (tCons (tVar 0) tNil))) (tC (.int 60))) tNil)) (gName 4) (tAsg (tOp rDivI (tVar 3) (tC (.int 1000003))) (gName 3)))
      (tRet (tOp rModI (tOp rModI (tVar 3) (tC (.int 1000003))) (tVar 2)))) (tNext))
      (tSeq (tAsg (tOp rAddI (tOp rAddI (tOp rModI (tVar 3) (tC (.int 1000003))) (tOp rMulI (tOp rMulI (tC (.int 31)) (tVar 1)) (tVar 1))) (tC (.int 1))) (gName 5))
      (tRet (tOp rModI (tOp rModI (tOp rMulI (tOp rModI (tOp rMulI (tVar 5) (tC (.int 48271))) (tC (.int 999983))) (tC (.int 7919))) (tC (.int 524287))) (tVar 2)))))
theorem pr_draw {P : Program} {w : World} {K : PySem.W.Frag} {mg : Str → Option Value} {base : Heap} {a : Ad} (T : Tx K mg a) {f : Addr} {cdv : Value} {A : Around} {outer : List Env} {s : Shared} {H : Hp} {E : XK} (hr : Room 0 (A.deeper (envOfC "_law_draw" (defScope s_draw) s.heap.objs.size f cdv))) :
    QSs (cxOf CX0 P w K mg base ["_law_script", "_law_k", "_law_many", "_law_cell", "_law_j", "_law_seed"] "_law_draw" (defScope s_draw) f cdv A outer s H E).nox (defBody s_draw) (rd_draw K a) := by
  exact kss_cons (ks_set (i := 3) sc_draw.nd (ke_ifExp (kt_cmp op_gt (ke_callB call_len_seq T.n_len PyProof.Rows.Boot.«len» (ka_cons (kv 0) ka_nil)) ke_int) (ke_ix ix_list (kv 0) (ke_op op_mod (kv 1) (ke_callB call_len_seq T.n_len PyProof.Rows.Boot.«len» (ka_cons (kv 0) ka_nil)))) ke_int))
      (kss_cons (ks_if (kt_w (kw_and (kt_cmp op_gt (ke_callB call_len_seq T.n_len PyProof.Rows.Boot.«len» (ka_cons (kv 0) ka_nil)) ke_int) (kw_and1 (kt_cmp op_eq (ke_op op_mod (ke_op op_fdiv (ke_ix ix_list (kv 0) ke_int) ke_int) ke_int) ke_int)))) (kss_cons (ks_for (ki_range1 T.n_range (ka_cons (ke_op op_mod (ke_op op_fdiv (kv 1) (ke_callB call_len_seq T.n_len PyProof.Rows.Boot.«len» (ka_cons (kv 0) ka_nil))) ke_int) ka_nil)) (kg_name (i := 4) sc_draw.nd) (kss_one (ks_set (i := 3) sc_draw.nd (ke_op op_fdiv (kv 3) ke_int))))
      (kss_one (ks_ret (ke_op op_mod (ke_op op_mod (kv 3) ke_int) (kv 2))))) (kss_nil))
      (kss_cons (ks_set (i := 5) sc_draw.nd (ke_op op_add (ke_op op_add (ke_op op_mod (kv 3) ke_int) (ke_op op_mulB (ke_op op_mulB ke_int (kv 1)) (kv 1))) ke_int))
      (kss_one (ks_ret (ke_op op_mod (ke_op op_mod (ke_op op_mulB (ke_op op_mod (ke_op op_mulB (kv 5) ke_int) ke_int) ke_int) ke_int) (kv 2))))))
theorem sc_letters : FnScope ["_law_script"] ["_law_script"] (defScope s_letters) := ⟨rfl, rfl, rfl, by decide +kernel, rfl, by decide +kernel, by decide +kernel⟩
def rd_letters (K : PySem.W.Frag) (a : Ad) : TS :=
    tRet (tOp (rIxL K) (tLst (tCons (tC (.int 2)) (tCons (tC (.int 3)) (tCons (tC (.int 4)) (tCons (tC (.int 10)) (tCons (tC (.int 26)) (tCons (tOp rAddI (tC (.int 2)) (tCall (spDraw K) [] E0 (tCons (tVar 0) (tCons (tC (.int 1)) (tCons (tC (.int 25)) tNil))))) tNil))))))) (tCall (spDraw K) [] E0 (tCons (tVar 0) (tCons (tC (.int 0)) (tCons (tC (.int 6)) tNil)))))
theorem pr_letters {P : Program} {w : World} {K : PySem.W.Frag} {mg : Str → Option Value} {base : Heap} {a : Ad} (T : Tx K mg a) (G_draw : FnOk P w K mg base CX0 1 a.f_draw a.fd_draw ["_law_script", "_law_k", "_law_many"] (spDraw K)) {f : Addr} {cdv : Value} {A : Around} {outer : List Env} {s : Shared} {H : Hp} {E : XK} (hr : Room 1 (A.deeper (envOfC "_law_letters" (defScope s_letters) s.heap.objs.size f cdv))) :
    QSs (cxOf CX0 P w K mg base ["_law_script"] "_law_letters" (defScope s_letters) f cdv A outer s H E).nox (defBody s_letters) (rd_letters K a) := by
  exact kss_one (ks_ret (ke_ix ix_list (ke_lst (ka_cons ke_int (ka_cons ke_int (ka_cons ke_int (ka_cons ke_int (ka_cons ke_int (ka_cons (ke_op op_add ke_int (ke_call G_draw (by exact hr.mono (by decide)) T.g_draw T.F_draw.kp T.b_draw pass0 (ka_cons (kv 0) (ka_cons ke_int (ka_cons ke_int ka_nil))))) ka_nil))))))) (ke_call G_draw (by exact hr.mono (by decide)) T.g_draw T.F_draw.kp T.b_draw pass0 (ka_cons (kv 0) (ka_cons ke_int (ka_cons ke_int ka_nil))))))
theorem sc_text : FnScope ["_law_letters_here", "_law_number", "_law_long", "_law_text_here", "_law_k"] ["_law_letters_here", "_law_number", "_law_long"] (defScope s_text) := ⟨rfl, rfl, rfl, by decide +kernel, rfl, by decide +kernel, by decide +kernel⟩
def rd_text (K : PySem.W.Frag) (a : Ad) : TS :=
    tSeq (tAsg (tC (.str (txt []))) (gName 3))
      (tSeq (tFor (iRng1 (tCons (tVar 2) tNil)) (gName 4) (tSeq (tAsg (tOp rAddS (tOp rIxStr (tC (.str (txt ABC))) (tOp rModI (tVar 1) (tVar 0))) (tVar 3)) (gName 3))
      (tAsg (tOp rDivI (tVar 1) (tVar 0)) (gName 1))))
      (tRet (tBM K "str" rRstrip (tVar 3) (tCons (tC (.str (txt [97]))) tNil))))
theorem pr_text {P : Program} {w : World} {K : PySem.W.Frag} {mg : Str → Option Value} {base : Heap} {a : Ad} (T : Tx K mg a) {f : Addr} {cdv : Value} {A : Around} {outer : List Env} {s : Shared} {H : Hp} {E : XK} (hr : Room 0 (A.deeper (envOfC "_law_text" (defScope s_text) s.heap.objs.size f cdv))) :
    QSs (cxOf CX0 P w K mg base ["_law_letters_here", "_law_number", "_law_long", "_law_text_here", "_law_k"] "_law_text" (defScope s_text) f cdv A outer s H E).nox (defBody s_text) (rd_text K a) := by
  exact kss_cons (ks_set (i := 3) sc_text.nd (ke_txt (by kernel_rfl)))
      (kss_cons (ks_for (ki_range1 T.n_range (ka_cons (kv 2) ka_nil)) (kg_name (i := 4) sc_text.nd) (kss_cons (ks_set (i := 3) sc_text.nd (ke_op op_addS (ke_ix ix_strL (ke_txt small_eq) (ke_op op_mod (kv 1) (kv 0))) (kv 3)))
      (kss_one (ks_set (i := 1) sc_text.nd (ke_op op_fdiv (kv 1) (kv 0))))))
      (kss_one (ks_ret (ke_bm PySem.F.plainAttrs_str PySem.F.slot_str_rstrip PySem.F.type_str_rstrip mt_rstrip (kv 3) (ka_cons (ke_txt (by kernel_rfl)) ka_nil)))))
theorem sc_mark : FnScope ["_law_script", "_law_base", "_law_letters_here", "_law_signs", "_law_size", "_law_few", "_law_text_here"] ["_law_script", "_law_base", "_law_letters_here"] (defScope s_mark) := ⟨rfl, rfl, rfl, by decide +kernel, rfl, by decide +kernel, by decide +kernel⟩
def rd_mark (K : PySem.W.Frag) (a : Ad) : TS :=
    tSeq (tAsg (tC (.str (txt ABC))) (gName 3))
      (tSeq (tAsg (tOp (rIxL K) (tLst (tCons (tCall (spDraw K) [] E0 (tCons (tVar 0) (tCons (tVar 1) (tCons (tC (.int 4)) tNil)))) (tCons (tCall (spDraw K) [] E0 (tCons (tVar 0) (tCons (tVar 1) (tCons (tC (.int 8)) tNil)))) (tCons (tC (.int 40)) tNil)))) (tOp rDivI (tCall (spDraw K) [] E0 (tCons (tVar 0) (tCons (tOp rAddI (tVar 1) (tC (.int 1))) (tCons (tC (.int 9)) tNil)))) (tC (.int 4)))) (gName 4))
      (tSeq (tAsg (tOp (rIxL K) (tLst (tCons (tVar 2) (tCons (tCB rMin2 (tCons (tC (.int 2)) (tCons (tVar 2) tNil))) tNil))) (tCall (spDraw K) [] E0 (tCons (tVar 0) (tCons (tOp rAddI (tVar 1) (tC (.int 2))) (tCons (tC (.int 2)) tNil))))) (gName 5))
      (tSeq (tAsg (tBM K "str" (rJoin K) (tC (.str (txt []))) (tCons (tComp (iRng1 (tCons (tVar 4) tNil)) [3, 0, 5, 1] tYes (tOp rIxStr (tVar 1) (tCall (spDraw K) [] E0 (tCons (tVar 2) (tCons (tOp rAddI (tOp rAddI (tVar 4) (tC (.int 3))) (tOp rMulI (tC (.int 2)) (tVar 0))) (tCons (tVar 3) tNil)))))) tNil)) (gName 6))
      (tRet (tOp rAddS (tVar 6) (tOp rIxStr (tVar 3) (tOp rAddI (tC (.int 1)) (tCall (spDraw K) [] E0 (tCons (tVar 0) (tCons (tOp rAddI (tVar 1) (tC (.int 90))) (tCons (tOp rSubI (tVar 2) (tC (.int 1))) tNil)))))))))))
theorem pr_mark {P : Program} {w : World} {K : PySem.W.Frag} {mg : Str → Option Value} {base : Heap} {a : Ad} (T : Tx K mg a) (G_draw : FnOk P w K mg base CX0 1 a.f_draw a.fd_draw ["_law_script", "_law_k", "_law_many"] (spDraw K)) {f : Addr} {cdv : Value} {A : Around} {outer : List Env} {s : Shared} {H : Hp} {E : XK} (hr : Room 1 (A.deeper (envOfC "_law_mark" (defScope s_mark) s.heap.objs.size f cdv))) :
    QSs (cxOf CX0 P w K mg base ["_law_script", "_law_base", "_law_letters_here", "_law_signs", "_law_size", "_law_few", "_law_text_here"] "_law_mark" (defScope s_mark) f cdv A outer s H E).nox (defBody s_mark) (rd_mark K a) := by
  exact kss_cons (ks_setc (i := 3) sc_mark.nd (ke_txt small_eq))
      (kss_cons (ks_set (i := 4) sc_mark.nd (ke_ix ix_list (ke_lst (ka_cons (ke_call G_draw (by exact hr.mono (by decide)) T.g_draw T.F_draw.kp T.b_draw pass0 (ka_cons (kvc 0) (ka_cons (kvc 1) (ka_cons ke_int ka_nil)))) (ka_cons (ke_call G_draw (by exact hr.mono (by decide)) T.g_draw T.F_draw.kp T.b_draw pass0 (ka_cons (kvc 0) (ka_cons (kvc 1) (ka_cons ke_int ka_nil)))) (ka_cons ke_int ka_nil)))) (ke_op op_fdiv (ke_call G_draw (by exact hr.mono (by decide)) T.g_draw T.F_draw.kp T.b_draw pass0 (ka_cons (kvc 0) (ka_cons (ke_op op_add (kvc 1) ke_int) (ka_cons ke_int ka_nil)))) ke_int)))
      (kss_cons (ks_setc (i := 5) sc_mark.nd (ke_ix ix_list (ke_lst (ka_cons (kv 2) (ka_cons (ke_callB (call_min2 (by kernel_rfl)) T.n_min PyProof.Rows.Boot.«min» (ka_cons ke_int (ka_cons (kv 2) ka_nil))) ka_nil))) (ke_call G_draw (by exact hr.mono (by decide)) T.g_draw T.F_draw.kp T.b_draw pass0 (ka_cons (kvc 0) (ka_cons (ke_op op_add (kvc 1) ke_int) (ka_cons ke_int ka_nil))))))
      (kss_cons (ks_set (i := 6) sc_mark.nd (ke_bm PySem.F.plainAttrs_str PySem.F.slot_str_join PySem.F.type_str_join mt_join (ke_txt (by kernel_rfl)) (ka_cons (ke_comp [("_law_signs", 3), ("_law_script", 0), ("_law_few", 5), ("_law_base", 1)] (ki_range1 T.n_range (ka_cons (kv 4) ka_nil)) (fun _ _ _ _ _ => ⟨kts_nil, ke_ix ix_strL (kvc 1) (ke_call G_draw (by exact hr.mono (by decide)) T.g_draw T.F_draw.kp T.b_draw pass0 (ka_cons (kvc 2) (ka_cons (ke_op op_add (ke_op op_add (kvc 4) ke_int) (ke_op op_mulB ke_int (kv 0))) (ka_cons (kvc 3) ka_nil))))⟩)) ka_nil)))
      (kss_one (ks_ret (ke_op op_addS (kv 6) (ke_ix ix_strL (kvc 3) (ke_op op_add ke_int (ke_call G_draw (by exact hr.mono (by decide)) T.g_draw T.F_draw.kp T.b_draw pass0 (ka_cons (kvc 0) (ka_cons (ke_op op_add (kvc 1) ke_int) (ka_cons (ke_op op_sub (kv 2) ke_int) ka_nil))))))))))))
theorem sc_marks : FnScope ["_law_script", "_law_base", "_law_letters_here", "_law_many", "_law_marks_here", "_law_k", "_law_mark_here", "_law_other"] ["_law_script", "_law_base", "_law_letters_here", "_law_many"] (defScope s_marks) := ⟨rfl, rfl, rfl, by decide +kernel, rfl, by decide +kernel, by decide +kernel⟩
def rd_marks (K : PySem.W.Frag) (a : Ad) : TS :=
    tSeq (tAsg (tLst tNil) (gName 4))
      (tSeq (tFor (iRng1 (tCons (tVar 3) tNil)) (gName 5) (tSeq (tAsg (tCall (spMark41 K) [] E0 (tCons (tVar 0) (tCons (tOp rAddI (tVar 1) (tOp rMulI (tC (.int 97)) (tVar 5))) (tCons (tVar 2) tNil)))) (gName 6))
      (tSeq (tIfS (tAnd (tTest (tOp rGtI (tCB (rLenL K) (tCons (tVar 4) tNil)) (tC (.int 0)))) (tTest (tOp rEq (tCall (spDraw K) [] E0 (tCons (tVar 0) (tCons (tOp rAddI (tOp rAddI (tVar 1) (tOp rMulI (tC (.int 13)) (tVar 5))) (tC (.int 5))) (tCons (tC (.int 3)) tNil)))) (tC (.int 0))))) (tSeq (tAsg (tOp (rIxL K) (tVar 4) (tCall (spDraw K) [] E0 (tCons (tVar 0) (tCons (tOp rAddI (tOp rAddI (tVar 1) (tOp rMulI (tC (.int 13)) (tVar 5))) (tC (.int 6))) (tCons (tCB (rLenL K) (tCons (tVar 4) tNil)) tNil))))) (gName 7))
      (tAsg (tOp rAddS (tSl rSlS (tVar 7) tNoPart (tPart (tOp rAddI (tC (.int 1)) (tCall (spDraw K) [] E0 (tCons (tVar 0) (tCons (tOp rAddI (tOp rAddI (tVar 1) (tOp rMulI (tC (.int 13)) (tVar 5))) (tC (.int 7))) (tCons (tCB rLenS (tCons (tVar 7) tNil)) tNil))))))) (tSl rSlS (tVar 6) (tPart (tUn rNegI (tC (.int 2)))) tNoPart)) (gName 6))) (tNext))
      (tIfS (tTest (tOp (rIn K true) (tVar 6) (tVar 4))) (tDrop (tBM K "list" rAppend (tVar 4) (tCons (tVar 6) tNil))) (tNext)))))
      (tRet (tCB (rSortedS K) (tCons (tVar 4) tNil))))
theorem pr_marks {P : Program} {w : World} {K : PySem.W.Frag} {mg : Str → Option Value} {base : Heap} {a : Ad} (T : Tx K mg a) (G_mark : FnOk P w K mg base CX0 2 a.f_mark a.fd_mark ["_law_script", "_law_base", "_law_letters_here"] (spMark41 K)) (G_draw : FnOk P w K mg base CX0 1 a.f_draw a.fd_draw ["_law_script", "_law_k", "_law_many"] (spDraw K)) {f : Addr} {cdv : Value} {A : Around} {outer : List Env} {s : Shared} {H : Hp} {E : XK} (hr : Room 2 (A.deeper (envOfC "_law_marks" (defScope s_marks) s.heap.objs.size f cdv))) :
    QSs (cxOf CX0 P w K mg base ["_law_script", "_law_base", "_law_letters_here", "_law_many", "_law_marks_here", "_law_k", "_law_mark_here", "_law_other"] "_law_marks" (defScope s_marks) f cdv A outer s H E).nox (defBody s_marks) (rd_marks K a) := by
  exact kss_cons (ks_set (i := 4) sc_marks.nd (ke_lst ka_nil))
      (kss_cons (ks_for (ki_range1 T.n_range (ka_cons (kv 3) ka_nil)) (kg_name (i := 5) sc_marks.nd) (kss_cons (ks_set (i := 6) sc_marks.nd (ke_call G_mark (by exact hr.mono (by decide)) T.g_mark T.F_mark.kp T.b_mark pass0 (ka_cons (kv 0) (ka_cons (ke_op op_add (kv 1) (ke_op op_mulB ke_int (kv 5))) (ka_cons (kv 2) ka_nil)))))
      (kss_cons (ks_if (kt_w (kw_and (kt_cmp op_gt (ke_callB call_len_seq T.n_len PyProof.Rows.Boot.«len» (ka_cons (kv 4) ka_nil)) ke_int) (kw_and1 (kt_cmp op_eq (ke_call G_draw (by exact hr.mono (by decide)) T.g_draw T.F_draw.kp T.b_draw pass0 (ka_cons (kv 0) (ka_cons (ke_op op_add (ke_op op_add (kv 1) (ke_op op_mulB ke_int (kv 5))) ke_int) (ka_cons ke_int ka_nil)))) ke_int)))) (kss_cons (ks_set (i := 7) sc_marks.nd (ke_ix ix_list (kv 4) (ke_call G_draw (by exact hr.mono (by decide)) T.g_draw T.F_draw.kp T.b_draw pass0 (ka_cons (kv 0) (ka_cons (ke_op op_add (ke_op op_add (kv 1) (ke_op op_mulB ke_int (kv 5))) ke_int) (ka_cons (ke_callB call_len_seq T.n_len PyProof.Rows.Boot.«len» (ka_cons (kv 4) ka_nil)) ka_nil))))))
      (kss_one (ks_set (i := 6) sc_marks.nd (ke_op op_addS (ke_slice sl_str (kv 7) ko_none (ko_some (ke_op op_add ke_int (ke_call G_draw (by exact hr.mono (by decide)) T.g_draw T.F_draw.kp T.b_draw pass0 (ka_cons (kv 0) (ka_cons (ke_op op_add (ke_op op_add (kv 1) (ke_op op_mulB ke_int (kv 5))) ke_int) (ka_cons (ke_callB call_lenS T.n_len PyProof.Rows.Boot.«len» (ka_cons (kv 7) ka_nil)) ka_nil))))))) (ke_slice sl_str (kv 6) (ko_some (ke_un un_neg ke_int)) ko_none))))) (kss_nil))
      (kss_one (ks_if (kt_cmp op_notIn_seq (kv 6) (kv 4)) (kss_one (ks_expr (ke_bm PySem.F.plainAttrs_list PySem.F.slot_list_append PySem.F.type_list_append mt_append (kv 4) (ka_cons (kv 6) ka_nil)))) (kss_nil))))))
      (kss_one (ks_ret (ke_callB call_sortedS T.n_sorted PyProof.Rows.Boot.«sorted» (ka_cons (kv 4) ka_nil)))))
theorem sc_renewed : FnScope ["_law_letters_here", "_law_many", "_law_long", "_law_count"] ["_law_letters_here", "_law_many"] (defScope s_renewed) := ⟨rfl, rfl, rfl, by decide +kernel, rfl, by decide +kernel, by decide +kernel⟩
def rd_renewed (K : PySem.W.Frag) (a : Ad) : TS :=
    tSeq (tAsg (tC (.int 0)) (gName 2))
      (tSeq (tAsg (tC (.int 1)) (gName 3))
      (tSeq (tWhile (tTest (tOp rLtI (tOp rSubI (tVar 3) (tC (.int 1))) (tVar 1))) (tSeq (tAsg (tOp rAddI (tVar 2) (tC (.int 1))) (gName 2))
      (tAsg (tOp rMulI (tVar 3) (tVar 0)) (gName 3))))
      (tRet (tComp (iRng1 (tCons (tVar 1) tNil)) [0, 2, 3, 1] tYes (tCall spText [] E0 (tCons (tVar 1) (tCons (tOp rDivI (tOp rMulI (tOp rAddI (tVar 0) (tC (.int 1))) (tVar 3)) (tOp rAddI (tVar 4) (tC (.int 1)))) (tCons (tVar 2) tNil))))))))
theorem pr_renewed {P : Program} {w : World} {K : PySem.W.Frag} {mg : Str → Option Value} {base : Heap} {a : Ad} (T : Tx K mg a) (G_text : FnOk P w K mg base CX0 1 a.f_text a.fd_text ["_law_letters_here", "_law_number", "_law_long"] spText) {f : Addr} {cdv : Value} {A : Around} {outer : List Env} {s : Shared} {H : Hp} {E : XK} (hr : Room 1 (A.deeper (envOfC "_law_renewed" (defScope s_renewed) s.heap.objs.size f cdv))) :
    QSs (cxOf CX0 P w K mg base ["_law_letters_here", "_law_many", "_law_long", "_law_count"] "_law_renewed" (defScope s_renewed) f cdv A outer s H E).nox (defBody s_renewed) (rd_renewed K a) := by
  exact kss_cons (ks_setc (i := 2) sc_renewed.nd ke_int)
      (kss_cons (ks_setc (i := 3) sc_renewed.nd ke_int)
      (kss_cons (ks_while (kt_cmp op_lt (ke_op op_sub (kvc 3) ke_int) (kvc 1)) (kss_cons (ks_setc (i := 2) sc_renewed.nd (ke_op op_add (kvc 2) ke_int))
      (kss_one (ks_setc (i := 3) sc_renewed.nd (ke_op op_mulB (kvc 3) (kvc 0))))))
      (kss_one (ks_ret (ke_comp [("_law_letters_here", 0), ("_law_long", 2), ("_law_count", 3), ("_law_many", 1)] (ki_range1 T.n_range (ka_cons (kvc 1) ka_nil)) (fun _ _ _ _ _ => ⟨kts_nil, ke_call G_text (by exact hr.mono (by decide)) T.g_text T.F_text.kp T.b_text pass0 (ka_cons (kvc 1) (ka_cons (ke_op op_fdiv (ke_op op_mulB (ke_op op_add (kv 0) ke_int) (kvc 3)) (ke_op op_add (kvc 4) ke_int)) (ka_cons (kvc 2) ka_nil)))⟩))))))
theorem sc_rows : FnScope ["_law_script", "_law_base", "_law_letters_here", "_law_marks_here", "_law_stands", "_law_fresh", "_law_rows_here", "_law_k", "_law_new"] ["_law_script", "_law_base", "_law_letters_here", "_law_marks_here"] (defScope s_rows) := ⟨rfl, rfl, rfl, by decide +kernel, rfl, by decide +kernel, by decide +kernel⟩
def rd_rows (K : PySem.W.Frag) (a : Ad) : TS :=
    tSeq (tCompSet 4 (iRng1 (tCons (tCB (rLenL K) (tCons (tVar 3) tNil)) tNil)) [0, 1] tYes (tOp rGtI (tCall (spDraw K) [] E0 (tCons (tVar 1) (tCons (tOp rAddI (tVar 2) (tVar 0)) (tCons (tC (.int 3)) tNil)))) (tC (.int 0))))
      (tSeq (tAsg (tCall spLRenewed [] E0 (tCons (tVar 2) (tCons (tBM K "list" (rCount K) (tVar 4) (tCons (tC (.bl true)) tNil)) tNil))) (gName 5))
      (tSeq (tAsg (tLst tNil) (gName 6))
      (tSeq (tFor (iRng1 (tCons (tCB (rLenL K) (tCons (tVar 3) tNil)) tNil)) (gName 7) (tSeq (tAsg (tC .non) (gName 8))
      (tSeq (tIfS (tB (tOp (rIxL K) (tVar 4) (tVar 7))) (tAsg (tOp (rIxL K) (tVar 5) (tBM K "list" (rCount K) (tSl (rSlL K) (tVar 4) tNoPart (tPart (tVar 7))) (tCons (tC (.bl true)) tNil))) (gName 8)) (tNext))
      (tDrop (tBM K "list" rAppend (tVar 6) (tCons (tTup (tCons (tOp (rIxL K) (tVar 3) (tVar 7)) (tCons (tVar 8) tNil))) tNil))))))
      (tRet (tVar 6)))))
theorem pr_rows {P : Program} {w : World} {K : PySem.W.Frag} {mg : Str → Option Value} {base : Heap} {a : Ad} (T : Tx K mg a) (G_draw : FnOk P w K mg base CX0 1 a.f_draw a.fd_draw ["_law_script", "_law_k", "_law_many"] (spDraw K)) (G_renewed : FnOk P w K mg base CX0 2 a.f_renewed a.fd_renewed ["_law_letters_here", "_law_many"] spLRenewed) {f : Addr} {cdv : Value} {A : Around} {outer : List Env} {s : Shared} {H : Hp} {E : XK} (hr : Room 2 (A.deeper (envOfC "_law_rows" (defScope s_rows) s.heap.objs.size f cdv))) :
    QSs (cxOf CX0 P w K mg base ["_law_script", "_law_base", "_law_letters_here", "_law_marks_here", "_law_stands", "_law_fresh", "_law_rows_here", "_law_k", "_law_new"] "_law_rows" (defScope s_rows) f cdv A outer s H E).nox (defBody s_rows) (rd_rows K a) := by
  exact kss_cons (ks_comp (i := 4) [("_law_script", 0), ("_law_base", 1)] sc_rows.nd (ki_range1 T.n_range (ka_cons (ke_callB call_len_seq T.n_len PyProof.Rows.Boot.«len» (ka_cons (kv 3) ka_nil)) ka_nil)) (fun _ _ _ _ _ => ⟨kts_nil, ke_cmp op_gt (ke_call G_draw (by exact hr.mono (by decide)) T.g_draw T.F_draw.kp T.b_draw pass0 (ka_cons (kvc 1) (ka_cons (ke_op op_add (kvc 2) (kv 0)) (ka_cons ke_int ka_nil)))) ke_int⟩))
      (kss_cons (ks_set (i := 5) sc_rows.nd (ke_call G_renewed (by exact hr.mono (by decide)) T.g_renewed T.F_renewed.kp T.b_renewed pass0 (ka_cons (kv 2) (ka_cons (ke_bm PySem.F.plainAttrs_list PySem.F.slot_list_count PySem.F.type_list_count mt_count (kv 4) (ka_cons ke_bl ka_nil)) ka_nil))))
      (kss_cons (ks_set (i := 6) sc_rows.nd (ke_lst ka_nil))
      (kss_cons (ks_for (ki_range1 T.n_range (ka_cons (ke_callB call_len_seq T.n_len PyProof.Rows.Boot.«len» (ka_cons (kv 3) ka_nil)) ka_nil)) (kg_name (i := 7) sc_rows.nd) (kss_cons (ks_set (i := 8) sc_rows.nd ke_non)
      (kss_cons (ks_if (kt_val (ke_ix ix_list (kv 4) (kv 7))) (kss_one (ks_set (i := 8) sc_rows.nd (ke_ix ix_list (kv 5) (ke_bm PySem.F.plainAttrs_list PySem.F.slot_list_count PySem.F.type_list_count mt_count (ke_slice sl_list (kv 4) ko_none (ko_some (kv 7))) (ka_cons ke_bl ka_nil))))) (kss_nil))
      (kss_one (ks_expr (ke_bm PySem.F.plainAttrs_list PySem.F.slot_list_append PySem.F.type_list_append mt_append (kv 6) (ka_cons (ke_tup (ka_cons (ke_ix ix_list (kv 3) (kv 7)) (ka_cons (kv 8) ka_nil))) ka_nil)))))))
      (kss_one (ks_ret (kv 6))))))
theorem sc_due : FnScope ["_law_letters_here", "_law_rows_here", "_law_mark_here", "_law_low", "_law_high", "_law_old", "_law_new"] ["_law_letters_here", "_law_rows_here", "_law_mark_here"] (defScope s_due) := ⟨rfl, rfl, rfl, by decide +kernel, rfl, by decide +kernel, by decide +kernel⟩
def rd_due (K : PySem.W.Frag) (a : Ad) : TS :=
    tSeq (tAsg (tC .non) (gName 3))
      (tSeq (tAsg (tC .non) (gName 4))
      (tSeq (tFor (iList K (tVar 1)) (gTup K 2 (gCons (gName 5) (gCons (gName 6) gNil))) (tSeq (tIfS (tTest (tOp rEq (tVar 5) (tVar 2))) (tRet (tVar 6)) (tNext))
      (tIfS (tAnd (tB (tNotN (tVar 6))) (tTest (tOp rLtS (tVar 5) (tVar 2)))) (tAsg (tVar 6) (gName 3)) (tNext))))
      (tSeq (tFor (iRev K (tCons (tVar 1) tNil)) (gTup K 2 (gCons (gName 5) (gCons (gName 6) gNil))) (tIfS (tAnd (tB (tNotN (tVar 6))) (tTest (tOp rGtS (tVar 5) (tVar 2)))) (tAsg (tVar 6) (gName 4)) (tNext)))
      (tRet (tOp rAddS (tCall (spStem a.c_NoRoom) [] E0 (tCons (tVar 0) (tCons (tVar 3) (tCons (tVar 4) tNil)))) (tVar 2))))))
theorem pr_due {P : Program} {w : World} {K : PySem.W.Frag} {mg : Str → Option Value} {base : Heap} {a : Ad} (T : Tx K mg a) (G_p25 : FnOk P w K mg base (CX1 P w) 5 a.f_p25 a.fd_p25 ["letters", "low", "high"] (spStem a.c_NoRoom)) {f : Addr} {cdv : Value} {A : Around} {outer : List Env} {s : Shared} {H : Hp} {E : XK} (hr : Room 5 (A.deeper (envOfC "_law_due" (defScope s_due) s.heap.objs.size f cdv))) :
    QSs (cxOf CX0 P w K mg base ["_law_letters_here", "_law_rows_here", "_law_mark_here", "_law_low", "_law_high", "_law_old", "_law_new"] "_law_due" (defScope s_due) f cdv A outer s H E).nox (defBody s_due) (rd_due K a) := by
  exact kss_cons (ks_set (i := 3) sc_due.nd ke_non)
      (kss_cons (ks_set (i := 4) sc_due.nd ke_non)
      (kss_cons (ks_for (ki_list (kv 1)) (kg_tup (kgs_cons (kg_name (i := 5) sc_due.nd) (kgs_cons (kg_name (i := 6) sc_due.nd) kgs_nil))) (kss_cons (ks_if (kt_cmp op_eq (kv 5) (kv 2)) (kss_one (ks_ret (kv 6))) (kss_nil))
      (kss_one (ks_if (kt_w (kw_and (kt_notN (kv 6)) (kw_and1 (kt_cmp op_ltS (kv 5) (kv 2))))) (kss_one (ks_set (i := 3) sc_due.nd (kv 6))) (kss_nil)))))
      (kss_cons (ks_for (ki_rev T.n_reversed (ka_cons (kv 1) ka_nil)) (kg_tup (kgs_cons (kg_name (i := 5) sc_due.nd) (kgs_cons (kg_name (i := 6) sc_due.nd) kgs_nil))) (kss_one (ks_if (kt_w (kw_and (kt_notN (kv 6)) (kw_and1 (kt_cmp op_gtS (kv 5) (kv 2))))) (kss_one (ks_set (i := 4) sc_due.nd (kv 6))) (kss_nil))))
      (kss_one (ks_ret (ke_op op_addS (ke_call G_p25 (by exact hr.mono (by decide)) T.g_p25 T.F_p25.kp T.b_p25 pass1 (ka_cons (kv 0) (ka_cons (kv 3) (ka_cons (kv 4) ka_nil)))) (kv 2)))))))
theorem sc_law : FnScope ["_law_script", "_law_letters_here", "_law_marks_here", "_law_rows_here", "_law_others", "_law_k", "_law_one", "_law_found", "_law_handed", "_law_mark_here", "_law_told", "_law_row"] ["_law_script"] (defScope s_law) := ⟨rfl, rfl, rfl, by decide +kernel, rfl, by decide +kernel, by decide +kernel⟩
def rd_law (K : PySem.W.Frag) (a : Ad) : TS :=
    tSeq (tAsg (tCall (spLetters K) [] E0 (tCons (tVar 0) tNil)) (gName 1))
      (tSeq (tAsg (tCall (spMarks K) [] E0 (tCons (tVar 0) (tCons (tC (.int 100)) (tCons (tVar 1) (tCons (tCall (spDraw K) [] E0 (tCons (tVar 0) (tCons (tC (.int 2)) (tCons (tC (.int 15)) tNil)))) tNil))))) (gName 2))
      (tSeq (tAsg (tCall (spLRows K) [] E0 (tCons (tVar 0) (tCons (tC (.int 50)) (tCons (tVar 1) (tCons (tVar 2) tNil))))) (gName 3))
      (tSeq (tAsg (tCall (spMarks K) [] E0 (tCons (tVar 0) (tCons (tC (.int 2000)) (tCons (tVar 1) (tCons (tC (.int 8)) tNil))))) (gName 4))
      (tSeq (tFor (iRng1 (tCons (tCB rMin2 (tCons (tC (.int 4)) (tCons (tCB (rLenL K) (tCons (tVar 2) tNil)) tNil))) tNil)) (gName 5) (tSeq (tAsg (tOp (rIxL K) (tVar 2) (tCall (spDraw K) [] E0 (tCons (tVar 0) (tCons (tOp rAddI (tC (.int 10)) (tVar 5)) (tCons (tCB (rLenL K) (tCons (tVar 2) tNil)) tNil))))) (gName 6))
      (tSeq (tDrop (tBM K "list" rAppend (tVar 4) (tCons (tOp rAddS (tVar 6) (tOp (rIxL K) (tLst (tCons (tC (.str (txt [98]))) (tCons (tC (.str (txt [97, 98]))) (tCons (tC (.str (txt [97, 97, 98]))) tNil)))) (tCall (spDraw K) [] E0 (tCons (tVar 0) (tCons (tOp rAddI (tC (.int 20)) (tVar 5)) (tCons (tC (.int 3)) tNil)))))) tNil)))
      (tIfS (tTest (tOp rGtI (tCB rLenS (tCons (tVar 6) tNil)) (tC (.int 1)))) (tDrop (tBM K "list" rAppend (tVar 4) (tCons (tOp rAddS (tBM K "str" rRstrip (tSl rSlS (tVar 6) tNoPart (tPart (tOp rAddI (tC (.int 1)) (tCall (spDraw K) [] E0 (tCons (tVar 0) (tCons (tOp rAddI (tC (.int 30)) (tVar 5)) (tCons (tOp rSubI (tCB rLenS (tCons (tVar 6) tNil)) (tC (.int 1))) tNil))))))) (tCons (tC (.str (txt [97]))) tNil)) (tC (.str (txt [98])))) tNil))) (tNext)))))
      (tSeq (tAsg tDNewK (gName 7))
      (tSeq (tAsg (tCB (rListOf K) (tCons (tVar 3) tNil)) (gName 8))
      (tSeq (tFor (iList K (tOp rCat (tOp rCat (tVar 4) (tVar 2)) (tSl (rSlL K) (tVar 4) tNoPart (tPart (tC (.int 2)))))) (gName 9) (tSeq (tAsg (tCall (spCar K) [] E0 (tCons (tVar 1) (tCons (tVar 8) (tCons (tVar 9) tNil)))) (gName 10))
      (tSeq (tIfS (tOr (tTest (tOp (rNeD K) (tVar 8) (tVar 3))) (tTest (tOp rNe (tVar 10) (tCall (spDue K) [] E0 (tCons (tVar 1) (tCons (tVar 3) (tCons (tVar 9) tNil))))))) (tRet (tC (.bl false))) (tNext))
      (tSeq (tIfS (tAnd (tTest (tOp (rInD false) (tVar 9) (tVar 7))) (tTest (tOp rNe (tDGet (tVar 7) (tVar 9)) (tVar 10)))) (tRet (tC (.bl false))) (tNext))
      (tSeq (tIfS (tAnd (tTest (tOp (rIn K true) (tVar 9) (tVar 2))) (tNot (tB (tBM K "str" rEnds (tVar 10) (tCons (tVar 9) tNil))))) (tRet (tC (.bl false))) (tNext))
      (sDPut (tVar 7) (tVar 9) (tVar 10)))))))
      (tSeq (tCompSet 11 (iList K (tCB rSortedD (tCons (tVar 7) tNil))) [7] (tB (tNotN (tDGet (tVar 1) (tVar 0)))) (tDGet (tVar 1) (tVar 0)))
      (tSeq (tFor (iRng2 (tCons (tC (.int 1)) (tCons (tCB (rLenL K) (tCons (tVar 11) tNil)) tNil))) (gName 5) (tIfS (tNot (tTest (tOp rLtS (tOp (rIxL K) (tVar 11) (tOp rSubI (tVar 5) (tC (.int 1)))) (tOp (rIxL K) (tVar 11) (tVar 5))))) (tRet (tC (.bl false))) (tNext)))
      (tRet (tC (.bl true))))))))))))
theorem pr_law {P : Program} {w : World} {K : PySem.W.Frag} {mg : Str → Option Value} {base : Heap} {a : Ad} (T : Tx K mg a) (G_letters : FnOk P w K mg base CX0 2 a.f_letters a.fd_letters ["_law_script"] (spLetters K)) (G_draw : FnOk P w K mg base CX0 1 a.f_draw a.fd_draw ["_law_script", "_law_k", "_law_many"] (spDraw K)) (G_marks : FnOk P w K mg base CX0 3 a.f_marks a.fd_marks ["_law_script", "_law_base", "_law_letters_here", "_law_many"] (spMarks K)) (G_rows : FnOk P w K mg base CX0 3 a.f_rows a.fd_rows ["_law_script", "_law_base", "_law_letters_here", "_law_marks_here"] (spLRows K)) (G_p9 : FnOk P w K mg base CX0 7 a.f_p9 a.fd_p9 ["letters", "rows", "mark"] (spCar K)) (G_due : FnOk P w K mg base CX0 6 a.f_due a.fd_due ["_law_letters_here", "_law_rows_here", "_law_mark_here"] (spDue K)) {f : Addr} {cdv : Value} {A : Around} {outer : List Env} {s : Shared} {H : Hp} {E : XK} (hr : Room 7 (A.deeper (envOfC "law" (defScope s_law) s.heap.objs.size f cdv))) :
    QSs (cxOf CX0 P w K mg base ["_law_script", "_law_letters_here", "_law_marks_here", "_law_rows_here", "_law_others", "_law_k", "_law_one", "_law_found", "_law_handed", "_law_mark_here", "_law_told", "_law_row"] "law" (defScope s_law) f cdv A outer s H E).nox (defBody s_law) (rd_law K a) := by
  have hu := Room.units hr
  exact kss_cons (ks_set (i := 1) sc_law.nd (ke_call G_letters (by exact hr.mono (by decide)) T.g_letters T.F_letters.kp T.b_letters pass0 (ka_cons (kv 0) ka_nil)))
      (kss_cons (ks_set (i := 2) sc_law.nd (ke_call G_marks (by exact hr.mono (by decide)) T.g_marks T.F_marks.kp T.b_marks pass0 (ka_cons (kv 0) (ka_cons ke_int (ka_cons (kv 1) (ka_cons (ke_call G_draw (by exact hr.mono (by decide)) T.g_draw T.F_draw.kp T.b_draw pass0 (ka_cons (kv 0) (ka_cons ke_int (ka_cons ke_int ka_nil)))) ka_nil))))))
      (kss_cons (ks_set (i := 3) sc_law.nd (ke_call G_rows (by exact hr.mono (by decide)) T.g_rows T.F_rows.kp T.b_rows pass0 (ka_cons (kv 0) (ka_cons ke_int (ka_cons (kv 1) (ka_cons (kv 2) ka_nil))))))
      (kss_cons (ks_set (i := 4) sc_law.nd (ke_call G_marks (by exact hr.mono (by decide)) T.g_marks T.F_marks.kp T.b_marks pass0 (ka_cons (kv 0) (ka_cons ke_int (ka_cons (kv 1) (ka_cons ke_int ka_nil))))))
      (kss_cons (ks_for (ki_range1 T.n_range (ka_cons (ke_callB (call_min2 (by kernel_rfl)) T.n_min PyProof.Rows.Boot.«min» (ka_cons ke_int (ka_cons (ke_callB call_len_seq T.n_len PyProof.Rows.Boot.«len» (ka_cons (kv 2) ka_nil)) ka_nil))) ka_nil)) (kg_name (i := 5) sc_law.nd) (kss_cons (ks_set (i := 6) sc_law.nd (ke_ix ix_list (kv 2) (ke_call G_draw (by exact hr.mono (by decide)) T.g_draw T.F_draw.kp T.b_draw pass0 (ka_cons (kv 0) (ka_cons (ke_op op_add ke_int (kv 5)) (ka_cons (ke_callB call_len_seq T.n_len PyProof.Rows.Boot.«len» (ka_cons (kv 2) ka_nil)) ka_nil))))))
      (kss_cons (ks_expr (ke_bm PySem.F.plainAttrs_list PySem.F.slot_list_append PySem.F.type_list_append mt_append (kv 4) (ka_cons (ke_op op_addS (kv 6) (ke_ix ix_list (ke_lst (ka_cons (ke_txt (by kernel_rfl)) (ka_cons (ke_txt (by kernel_rfl)) (ka_cons (ke_txt (by kernel_rfl)) ka_nil)))) (ke_call G_draw (by exact hr.mono (by decide)) T.g_draw T.F_draw.kp T.b_draw pass0 (ka_cons (kv 0) (ka_cons (ke_op op_add ke_int (kv 5)) (ka_cons ke_int ka_nil)))))) ka_nil)))
      (kss_one (ks_if (kt_cmp op_gt (ke_callB call_lenS T.n_len PyProof.Rows.Boot.«len» (ka_cons (kv 6) ka_nil)) ke_int) (kss_one (ks_expr (ke_bm PySem.F.plainAttrs_list PySem.F.slot_list_append PySem.F.type_list_append mt_append (kv 4) (ka_cons (ke_op op_addS (ke_bm PySem.F.plainAttrs_str PySem.F.slot_str_rstrip PySem.F.type_str_rstrip mt_rstrip (ke_slice sl_str (kv 6) ko_none (ko_some (ke_op op_add ke_int (ke_call G_draw (by exact hr.mono (by decide)) T.g_draw T.F_draw.kp T.b_draw pass0 (ka_cons (kv 0) (ka_cons (ke_op op_add ke_int (kv 5)) (ka_cons (ke_op op_sub (ke_callB call_lenS T.n_len PyProof.Rows.Boot.«len» (ka_cons (kv 6) ka_nil)) ke_int) ka_nil))))))) (ka_cons (ke_txt (by kernel_rfl)) ka_nil)) (ke_txt (by kernel_rfl))) ka_nil)))) (kss_nil))))))
      (kss_cons (ks_setc (i := 7) sc_law.nd ke_dnewK)
      (kss_cons (ks_set (i := 8) sc_law.nd (ke_callTy call_list_of T.n_list PyProof.Rows.Boot.«list» (ka_cons (kv 3) ka_nil)))
      (kss_cons (ks_for (ki_list (ke_op op_cat (ke_op op_cat (kv 4) (kv 2)) (ke_slice sl_list (kv 4) ko_none (ko_some ke_int)))) (kg_name (i := 9) sc_law.nd) (kss_cons (ks_set (i := 10) sc_law.nd (ke_call G_p9 (by exact hr.mono (by decide)) T.g_p9 T.F_p9.kp T.b_p9 pass0 (ka_cons (kv 1) (ka_cons (kv 8) (ka_cons (kv 9) ka_nil)))))
      (kss_cons (ks_if (kt_w (kw_or (kt_cmp (op_neD hu) (kv 8) (kv 3)) (kw_or1 (kt_cmp op_ne (kv 10) (ke_call G_due (by exact hr.mono (by decide)) T.g_due T.F_due.kp T.b_due pass0 (ka_cons (kv 1) (ka_cons (kv 3) (ka_cons (kv 9) ka_nil)))))))) (kss_one (ks_ret ke_bl)) (kss_nil))
      (kss_cons (ks_if (kt_w (kw_and (kt_cmp (op_inD hu) (kv 9) (kvc 7)) (kw_and1 (kt_cmp op_ne (ke_dget hu (kvc 7) (kv 9)) (kv 10))))) (kss_one (ks_ret ke_bl)) (kss_nil))
      (kss_cons (ks_if (kt_w (kw_and (kt_cmp op_notIn_seq (kv 9) (kv 2)) (kw_and1 (kt_not (kt_val (ke_bm PySem.F.plainAttrs_str PySem.F.slot_str_endswith PySem.F.type_str_endswith mt_endswith (kv 10) (ka_cons (kv 9) ka_nil))))))) (kss_one (ks_ret ke_bl)) (kss_nil))
      (kss_one (ks_dput hu (kvc 7) (kv 9) (kv 10))))))))
      (kss_cons (ks_comp (i := 11) [("_law_found", 7)] sc_law.nd (ki_list (ke_callB (call_sortedD (by kernel_rfl)) T.n_sorted PyProof.Rows.Boot.«sorted» (ka_cons (kvc 7) ka_nil))) (fun _ _ _ _ _ => ⟨kts_one (kt_notN (ke_dget hu (kvc 1) (kv 0))), ke_dget hu (kvc 1) (kv 0)⟩))
      (kss_cons (ks_for (ki_range2 T.n_range (ka_cons ke_int (ka_cons (ke_callB call_len_seq T.n_len PyProof.Rows.Boot.«len» (ka_cons (kv 11) ka_nil)) ka_nil))) (kg_name (i := 5) sc_law.nd) (kss_one (ks_if (kt_not (kt_cmp op_ltS (ke_ix ix_list (kv 11) (ke_op op_sub (kv 5) ke_int)) (ke_ix ix_list (kv 11) (kv 5)))) (kss_one (ks_ret ke_bl)) (kss_nil))))
      (kss_one (ks_ret ke_bl)))))))))))
end K42
set_option Elab.async false
set_option linter.all false
set_option maxRecDepth 100000
set_option maxHeartbeats 4000000
namespace K42
open PySem PySem.Spec PyProof.Rows L2 MM
theorem oV_none : oV none = V.non := rfl
theorem oV_some (l : List Nat) : oV (some l) = V.str (txt l) := rfl
theorem read_car {K : PySem.W.Frag} {a : Ad} {N : List Str} {vs : List V} {H : Hp} {Q : VK} {E : XK} (hN : N.length = 3) (h : spCar K vs H Q E) : rd_p9 K a { nx := fun _ H' => Q .non H', rt := Q } (L2.start N vs) H := by
  obtain ⟨L, p, R, m, rfl, hL, hL26, hA, O, M, hm, q⟩ := h
  unfold rd_p9 L2.start
  rw [hN]
  simp only [tDNewT, tCompSet,tRaise,tIsi,tSeq,tAsg,gName,tOp,tUn,tVar,tC,tTest,tB,tIf,tIfS,tAnd,tOr,tNot,tAndV,tOrV,tNotV,tRet,tRetN,tNext,tDrop,tCB,tCons,tNil,tBM,tBM0,tCall,tLst,tTup,tSl,tPart,tNoPart,tIsN,tNotN,tYes,tBreak,tCont,rI0,rI,rU,rEq,rNe,L2.start,compSt,List.map_cons,List.map_nil,List.length_cons,List.length_nil,List.replicate_succ,List.replicate_zero,List.cons_append,List.nil_append,List.append_nil,List.getElem?_cons_zero,List.getElem?_cons_succ,List.set_cons_zero,List.set_cons_succ,Option.some.injEq,Option.join_some,V.int.injEq,V.str.injEq,V.bl.injEq,V.ref.injEq,txt_inj,exists_eq_left',exists_eq_left,exists_and_left,and_true,true_and,decide_eq_true_eq,reduceCtorEq,decide_false,decide_true,Bool.not_false,Bool.not_true,if_true,if_false,Bool.false_eq_true,Nat.reduceAdd,Nat.reduceSub,Bool.not_eq_true',decide_eq_false_iff_not,not_true_eq_false,not_false_eq_true]
  intro d hd
  have s1 := Same.up H hd (o := .dT [])
  refine ⟨L, p, d, R, m, [], rfl, hL, hL26, hA.same s1, O, M, hm, upd_same, StemsD.nil L, by decide, fun H' v kvs' k _ _ _ C => q H' v (fun b o e => ?_) C⟩
  have ne : b ≠ d := fun z => by subst z; rw [hd] at e; cases e
  exact k b o (by rw [upd_ne ne]; exact e) (fun z => ne (List.mem_singleton.mp z))
theorem low_snoc {R : List RwN} {m : List Nat} {r : RwN} : lowN (R ++ [r]) m = if isBel m r = true ∧ r.2 ≠ none then r.2 else lowN R m := by
  unfold lowN
  rw [List.reverse_append, List.reverse_singleton, List.singleton_append]
  cases hb : isBel m r with
  | true =>
    rw [List.filter_cons_of_pos hb, firstN_cons]
    cases hr : r.2 with
    | none => simp
    | some x => simp
  | false =>
    rw [List.filter_cons_of_neg (by rw [hb]; decide)]
    simp
def behN (R : List RwN) (m : List Nat) : Option (List Nat) := firstN (R.filter fun r => decide (m < r.1))
theorem beh_cons {R : List RwN} {m : List Nat} {r : RwN} : behN (r :: R) m = if m < r.1 ∧ r.2 ≠ none then r.2 else behN R m := by
  unfold behN
  by_cases hb : m < r.1
  · rw [List.filter_cons_of_pos (p := fun r : RwN => decide (m < r.1)) (decide_eq_true hb), firstN_cons]
    cases hr : r.2 with
    | none => simp
    | some x => simp [hb]
  · rw [List.filter_cons_of_neg (p := fun r : RwN => decide (m < r.1)) (by rw [decide_eq_false hb]; decide)]
    simp [hb]
theorem beh_high {R : List RwN} {m : List Nat} (h : ∀ r ∈ R, r.1 ≠ m) : behN R m = highN R m := by
  refine firstN_filter fun r hr _ => ?_
  unfold isBel
  by_cases z : r.1 < m
  · rw [decide_eq_true z, decide_eq_false fun y => List.lt_irrefl _ (List.lt_trans z y)]; rfl
  · by_cases y : m < r.1
    · rw [decide_eq_false z, decide_eq_true y]; rfl
    · exact absurd (List.le_antisymm (List.not_lt.mp y) (List.not_lt.mp z)) (h r hr)
theorem read_due {K : PySem.W.Frag} {a : Ad} {N : List Str} {vs : List V} {H : Hp} {Q : VK} {E : XK} (hN : N.length = 7) (h : spDue K vs H Q E) : rd_due K a { nx := fun _ H' => Q .non H', rt := Q } (L2.start N vs) H := by
  obtain ⟨L, p, R, m, rfl, hL, hL26, hA, O, M, hm, q⟩ := h
  obtain ⟨xs, hq, hp⟩ := id hA
  have hxl := hp.len
  rw [List.length_map] at hxl
  unfold rd_due L2.start
  rw [hN]
  refine seq_set fun c hc => ?_
  and_intros
  refine hc _ _ ?_
  clear hc c
  refine seq_set fun c hc => ?_
  and_intros
  refine hc _ _ ?_
  clear hc c
  refine seq_any fun c hc => ?_
  refine for_l (a := p) (xs := xs) (fun Q h => ⟨_, rfl, h⟩) hq (fun i σ H' => ∃ (v5 v6 : Option V), H' = H ∧ σ = [some (.int L), some (.ref p), some (.str (txt m)), some (oV (lowN (R.take i) m)), some .non, v5, v6] ∧ ∀ r ∈ R.take i, r.1 ≠ m)
    ⟨none, none, rfl, by rw [List.take_zero]; rfl, fun r h => by simp at h⟩ (fun i σ H' _ h => by obtain ⟨_, _, e, _⟩ := h; rw [e]; exact hq) ?_ ?_
  · rintro i x σ H' hx ⟨v5, v6, rfl, rfl, hno⟩
    obtain ⟨k, t, ek, rfl, ht⟩ := hp.get hx
    rw [List.getElem?_map] at ek
    obtain ⟨⟨o, v⟩, ek2, rfl⟩ := Option.map_eq_some_iff.mp ek
    have hlt : i < R.length := (List.getElem?_eq_some_iff.mp ek2).1
    have etk : R.take (i + 1) = R.take i ++ [(o, v)] := by rw [List.take_add_one, ek2]; rfl
    simp only [gTup, gCons, gNil, rowP, tCompSet,tRaise,tIsi,tSeq,tAsg,gName,tOp,tUn,tVar,tC,tTest,tB,tIf,tIfS,tAnd,tOr,tNot,tAndV,tOrV,tNotV,tRet,tRetN,tNext,tDrop,tCB,tCons,tNil,tBM,tBM0,tCall,tLst,tTup,tSl,tPart,tNoPart,tIsN,tNotN,tYes,tBreak,tCont,rI0,rI,rU,rEq,rNe,L2.start,compSt,List.map_cons,List.map_nil,List.length_cons,List.length_nil,List.replicate_succ,List.replicate_zero,List.cons_append,List.nil_append,List.append_nil,List.getElem?_cons_zero,List.getElem?_cons_succ,List.set_cons_zero,List.set_cons_succ,Option.some.injEq,Option.join_some,V.int.injEq,V.str.injEq,V.bl.injEq,V.ref.injEq,txt_inj,exists_eq_left',exists_eq_left,exists_and_left,and_true,true_and,decide_eq_true_eq,reduceCtorEq,decide_false,decide_true,Bool.not_false,Bool.not_true,if_true,if_false,Bool.false_eq_true,Nat.reduceAdd,Nat.reduceSub,Bool.not_eq_true',decide_eq_false_iff_not,not_true_eq_false,not_false_eq_true]
    refine ⟨[strV o, oV v], SqT.of ht, rfl, strV o, [oV v], rfl, oV v, [], rfl, rfl, ?_⟩
    simp only [strV, tCompSet,tRaise,tIsi,tSeq,tAsg,gName,tOp,tUn,tVar,tC,tTest,tB,tIf,tIfS,tAnd,tOr,tNot,tAndV,tOrV,tNotV,tRet,tRetN,tNext,tDrop,tCB,tCons,tNil,tBM,tBM0,tCall,tLst,tTup,tSl,tPart,tNoPart,tIsN,tNotN,tYes,tBreak,tCont,rI0,rI,rU,rEq,rNe,L2.start,compSt,List.map_cons,List.map_nil,List.length_cons,List.length_nil,List.replicate_succ,List.replicate_zero,List.cons_append,List.nil_append,List.append_nil,List.getElem?_cons_zero,List.getElem?_cons_succ,List.set_cons_zero,List.set_cons_succ,Option.some.injEq,Option.join_some,V.int.injEq,V.str.injEq,V.bl.injEq,V.ref.injEq,txt_inj,exists_eq_left',exists_eq_left,exists_and_left,and_true,true_and,decide_eq_true_eq,reduceCtorEq,decide_false,decide_true,Bool.not_false,Bool.not_true,if_true,if_false,Bool.false_eq_true,Nat.reduceAdd,Nat.reduceSub,Bool.not_eq_true',decide_eq_false_iff_not,not_true_eq_false,not_false_eq_true]
    refine ⟨rfl, ?_⟩
    by_cases e : o = m
    · rw [if_pos e]
      exact q H' v (Same.refl _) (.inl ⟨(o, v), List.mem_of_getElem? ek2, e, rfl⟩)
    · rw [if_neg e]
      have hno2 : ∀ r ∈ R.take (i + 1), r.1 ≠ m := fun r hr => by
        rw [etk] at hr
        rcases List.mem_append.mp hr with hr | hr
        · exact hno r hr
        · rw [List.mem_singleton.mp hr]; exact e
      have hl := low_snoc (R := R.take i) (m := m) (r := (o, v))
      rw [← etk] at hl
      cases v with
      | none =>
        simp only [oV_none, oV_some, tCompSet,tRaise,tIsi,tSeq,tAsg,gName,tOp,tUn,tVar,tC,tTest,tB,tIf,tIfS,tAnd,tOr,tNot,tAndV,tOrV,tNotV,tRet,tRetN,tNext,tDrop,tCB,tCons,tNil,tBM,tBM0,tCall,tLst,tTup,tSl,tPart,tNoPart,tIsN,tNotN,tYes,tBreak,tCont,rI0,rI,rU,rEq,rNe,L2.start,compSt,List.map_cons,List.map_nil,List.length_cons,List.length_nil,List.replicate_succ,List.replicate_zero,List.cons_append,List.nil_append,List.append_nil,List.getElem?_cons_zero,List.getElem?_cons_succ,List.set_cons_zero,List.set_cons_succ,Option.some.injEq,Option.join_some,V.int.injEq,V.str.injEq,V.bl.injEq,V.ref.injEq,txt_inj,exists_eq_left',exists_eq_left,exists_and_left,and_true,true_and,decide_eq_true_eq,reduceCtorEq,decide_false,decide_true,Bool.not_false,Bool.not_true,if_true,if_false,Bool.false_eq_true,Nat.reduceAdd,Nat.reduceSub,Bool.not_eq_true',decide_eq_false_iff_not,not_true_eq_false,not_false_eq_true]
        rw [hl, if_neg (by simp)]
        exact ⟨_, _, rfl, hno2⟩
      | some y =>
        simp only [oV_none, oV_some, tCompSet,tRaise,tIsi,tSeq,tAsg,gName,tOp,tUn,tVar,tC,tTest,tB,tIf,tIfS,tAnd,tOr,tNot,tAndV,tOrV,tNotV,tRet,tRetN,tNext,tDrop,tCB,tCons,tNil,tBM,tBM0,tCall,tLst,tTup,tSl,tPart,tNoPart,tIsN,tNotN,tYes,tBreak,tCont,rI0,rI,rU,rEq,rNe,L2.start,compSt,List.map_cons,List.map_nil,List.length_cons,List.length_nil,List.replicate_succ,List.replicate_zero,List.cons_append,List.nil_append,List.append_nil,List.getElem?_cons_zero,List.getElem?_cons_succ,List.set_cons_zero,List.set_cons_succ,Option.some.injEq,Option.join_some,V.int.injEq,V.str.injEq,V.bl.injEq,V.ref.injEq,txt_inj,exists_eq_left',exists_eq_left,exists_and_left,and_true,true_and,decide_eq_true_eq,reduceCtorEq,decide_false,decide_true,Bool.not_false,Bool.not_true,if_true,if_false,Bool.false_eq_true,Nat.reduceAdd,Nat.reduceSub,Bool.not_eq_true',decide_eq_false_iff_not,not_true_eq_false,not_false_eq_true]
        refine ⟨_, _, rfl, rfl, _, rfl, ?_⟩
        by_cases z : o < m
        · rw [if_pos (decide_eq_true z)]
          rw [hl, if_pos ⟨decide_eq_true z, by simp⟩]
          exact ⟨rfl, _, _, rfl, hno2⟩
        · rw [if_neg (by rw [decide_eq_false z]; decide)]
          rw [hl, if_neg (by intro w; exact z (of_decide_eq_true w.1))]
          exact ⟨rfl, _, _, rfl, hno2⟩
  · rintro σ H' ⟨v5, v6, rfl, rfl, hno⟩
    rw [hxl, List.take_length] at hno ⊢
    refine hc _ _ ?_
    clear hc c
    refine seq_any fun c hc => ?_
    refine for_rev (a := p) (xs := xs) (fun Q h => by and_intros; exact h) hq (fun i σ H'' => ∃ (v5 v6 : Option V), H'' = H' ∧ σ = [some (.int L), some (.ref p), some (.str (txt m)), some (oV (lowN R m)), some (oV (behN (R.drop (R.length - i)) m)), v5, v6])
      ⟨v5, v6, rfl, by rw [Nat.sub_zero, List.drop_length]; rfl⟩ (fun i σ H' _ h => by obtain ⟨_, _, e, _⟩ := h; rw [e]; exact hq) ?_ ?_
    · rintro i x σ H'' hx ⟨v5, v6, rfl, rfl⟩
      obtain ⟨k, t, ek, rfl, ht⟩ := hp.rev.get hx
      rw [← List.map_reverse, List.getElem?_map] at ek
      obtain ⟨⟨o, v⟩, ek2, rfl⟩ := Option.map_eq_some_iff.mp ek
      have hlt : i < R.length := by have := (List.getElem?_eq_some_iff.mp ek2).1; rwa [List.length_reverse] at this
      rw [List.getElem?_reverse hlt] at ek2
      have ed : R.drop (R.length - (i + 1)) = (o, v) :: R.drop (R.length - i) := by
        have := drop_get ek2
        rwa [show R.length - 1 - i = R.length - (i + 1) by omega, show R.length - (i + 1) + 1 = R.length - i by omega] at this
      have hb := beh_cons (R := R.drop (R.length - i)) (m := m) (r := (o, v))
      rw [← ed] at hb
      simp only [gTup, gCons, gNil, rowP, tCompSet,tRaise,tIsi,tSeq,tAsg,gName,tOp,tUn,tVar,tC,tTest,tB,tIf,tIfS,tAnd,tOr,tNot,tAndV,tOrV,tNotV,tRet,tRetN,tNext,tDrop,tCB,tCons,tNil,tBM,tBM0,tCall,tLst,tTup,tSl,tPart,tNoPart,tIsN,tNotN,tYes,tBreak,tCont,rI0,rI,rU,rEq,rNe,L2.start,compSt,List.map_cons,List.map_nil,List.length_cons,List.length_nil,List.replicate_succ,List.replicate_zero,List.cons_append,List.nil_append,List.append_nil,List.getElem?_cons_zero,List.getElem?_cons_succ,List.set_cons_zero,List.set_cons_succ,Option.some.injEq,Option.join_some,V.int.injEq,V.str.injEq,V.bl.injEq,V.ref.injEq,txt_inj,exists_eq_left',exists_eq_left,exists_and_left,and_true,true_and,decide_eq_true_eq,reduceCtorEq,decide_false,decide_true,Bool.not_false,Bool.not_true,if_true,if_false,Bool.false_eq_true,Nat.reduceAdd,Nat.reduceSub,Bool.not_eq_true',decide_eq_false_iff_not,not_true_eq_false,not_false_eq_true]
      refine ⟨[strV o, oV v], SqT.of ht, rfl, strV o, [oV v], rfl, oV v, [], rfl, rfl, ?_⟩
      cases v with
      | none =>
        simp only [oV_none, oV_some, tCompSet,tRaise,tIsi,tSeq,tAsg,gName,tOp,tUn,tVar,tC,tTest,tB,tIf,tIfS,tAnd,tOr,tNot,tAndV,tOrV,tNotV,tRet,tRetN,tNext,tDrop,tCB,tCons,tNil,tBM,tBM0,tCall,tLst,tTup,tSl,tPart,tNoPart,tIsN,tNotN,tYes,tBreak,tCont,rI0,rI,rU,rEq,rNe,L2.start,compSt,List.map_cons,List.map_nil,List.length_cons,List.length_nil,List.replicate_succ,List.replicate_zero,List.cons_append,List.nil_append,List.append_nil,List.getElem?_cons_zero,List.getElem?_cons_succ,List.set_cons_zero,List.set_cons_succ,Option.some.injEq,Option.join_some,V.int.injEq,V.str.injEq,V.bl.injEq,V.ref.injEq,txt_inj,exists_eq_left',exists_eq_left,exists_and_left,and_true,true_and,decide_eq_true_eq,reduceCtorEq,decide_false,decide_true,Bool.not_false,Bool.not_true,if_true,if_false,Bool.false_eq_true,Nat.reduceAdd,Nat.reduceSub,Bool.not_eq_true',decide_eq_false_iff_not,not_true_eq_false,not_false_eq_true]
        rw [hb, if_neg (by simp)]
        exact ⟨_, _, rfl⟩
      | some y =>
        simp only [oV_none, oV_some, strV, tCompSet,tRaise,tIsi,tSeq,tAsg,gName,tOp,tUn,tVar,tC,tTest,tB,tIf,tIfS,tAnd,tOr,tNot,tAndV,tOrV,tNotV,tRet,tRetN,tNext,tDrop,tCB,tCons,tNil,tBM,tBM0,tCall,tLst,tTup,tSl,tPart,tNoPart,tIsN,tNotN,tYes,tBreak,tCont,rI0,rI,rU,rEq,rNe,L2.start,compSt,List.map_cons,List.map_nil,List.length_cons,List.length_nil,List.replicate_succ,List.replicate_zero,List.cons_append,List.nil_append,List.append_nil,List.getElem?_cons_zero,List.getElem?_cons_succ,List.set_cons_zero,List.set_cons_succ,Option.some.injEq,Option.join_some,V.int.injEq,V.str.injEq,V.bl.injEq,V.ref.injEq,txt_inj,exists_eq_left',exists_eq_left,exists_and_left,and_true,true_and,decide_eq_true_eq,reduceCtorEq,decide_false,decide_true,Bool.not_false,Bool.not_true,if_true,if_false,Bool.false_eq_true,Nat.reduceAdd,Nat.reduceSub,Bool.not_eq_true',decide_eq_false_iff_not,not_true_eq_false,not_false_eq_true]
        refine ⟨_, _, rfl, rfl, _, rfl, ?_⟩
        by_cases z : m < o
        · rw [if_pos (decide_eq_true z)]
          rw [hb, if_pos ⟨z, by simp⟩]
          exact ⟨rfl, _, _, rfl⟩
        · rw [if_neg (by rw [decide_eq_false z]; decide)]
          rw [hb, if_neg (fun w => z w.1)]
          exact ⟨rfl, _, _, rfl⟩
    · rintro σ H'' ⟨v5, v6, rfl, rfl⟩
      refine hc _ _ ?_
      rw [hxl, Nat.sub_self, List.drop_zero, beh_high hno]
      and_intros
      refine ⟨L, lowN R m, highN R m, rfl, hL, hL26, O.marksOk m, fun _ H5 n w s s5 S => ?_, fun no => absurd (O.okLH m) no⟩
      obtain ⟨_, b2, _, b4, _⟩ := S.all hL (O.marksOk m) (O.okLH m)
      have hlen := O.lens m
      have hz : s.length ≤ 501 := by rw [b2]; omega
      refine addS_go (by omega) ?_
      exact q H5 (some (s ++ m)) s5 (.inr ⟨hno, n, w, s, S, rfl⟩)
end K42
set_option Elab.async false
set_option linter.all false
set_option maxRecDepth 100000
set_option maxHeartbeats 4000000
namespace K42
open PySem PySem.Spec PyProof.Rows L2 MM
def rowAt (ms : List (List Nat)) (bs : List Bool) (fr : List (List Nat)) (j : Nat) : RwN := (ms.getD j [], if bs.getD j false = true then some (fr.getD ((bs.take j).count true) []) else none)
def rowsOf (ms : List (List Nat)) (bs : List Bool) (fr : List (List Nat)) (n : Nat) : List RwN := (List.range n).map (rowAt ms bs fr)
theorem rowsOf_succ {ms : List (List Nat)} {bs : List Bool} {fr : List (List Nat)} {n : Nat} : rowsOf ms bs fr (n + 1) = rowsOf ms bs fr n ++ [rowAt ms bs fr n] := by
  unfold rowsOf
  rw [List.range_succ, List.map_append]
  rfl
theorem cnt_bl (bs : List Bool) : (bs.map V.bl).countP (fun y => eqV y (.bl true)) = bs.count true := by
  rw [List.countP_map, List.count]
  rfl
theorem cnt_le {bs : List Bool} {i j : Nat} (h : i ≤ j) : (bs.take i).count true ≤ (bs.take j).count true := by
  have : bs.take i = (bs.take j).take i := by rw [List.take_take, Nat.min_eq_left h]
  rw [this]
  exact (List.take_sublist _ _).count_le _
theorem cnt_lt {bs : List Bool} {i j : Nat} (h : i < j) (hb : bs.getD i false = true) : (bs.take i).count true < (bs.take j).count true := by
  have e : bs[i]? = some true := by
    rw [List.getD_eq_getElem?_getD] at hb
    cases hq : bs[i]? with
    | none => rw [hq] at hb; cases hb
    | some b => rw [hq] at hb; rw [show b = true from hb]
  have h1 : (bs.take (i + 1)).count true = (bs.take i).count true + 1 := by
    rw [List.take_add_one, e, List.count_append]
    rfl
  have := cnt_le (bs := bs) (show i + 1 ≤ j from h)
  omega
theorem cnt_all {bs : List Bool} {i : Nat} (hb : bs.getD i false = true) : (bs.take i).count true < bs.count true := by
  have hi : i < bs.length := by
    rcases Nat.lt_or_ge i bs.length with z | z
    · exact z
    · rw [List.getD_eq_getElem?_getD, List.getElem?_eq_none z] at hb; cases hb
  have := cnt_lt hi hb
  rwa [List.take_length] at this
theorem getD_at {α : Type} {l : List α} {i : Nat} (d : α) (h : i < l.length) : l.getD i d = l[i] := by
  rw [List.getD_eq_getElem?_getD, List.getElem?_eq_getElem h]; rfl
theorem rows_good {L n : Nat} {ms : List (List Nat)} {bs : List Bool} (hL : 2 ≤ L) (hms : ∀ m ∈ ms, Mark L m ∧ m.length ≤ 200) (hml : ms.length ≤ 40) (up : ms.Pairwise (· < ·)) (hb : bs.length = ms.length) (R : IsRen L (bs.count true) n) :
    RowsOk L (rowsOf ms bs (renL L (bs.count true) n) ms.length) ∧ (rowsOf ms bs (renL L (bs.count true) n) ms.length).map (·.1) = ms := by
  have hcl : bs.count true ≤ 40 := by have := List.count_le_length (a := true) (l := bs); omega
  have hn : n ≤ 40 := Nat.le_trans (R.le hL) hcl
  have fl := renL_len L (bs.count true) n
  have fu := renL_lt (L := L) (by omega) R
  have fm := renL_mem (L := L) (by omega) R
  generalize renL L (bs.count true) n = fr at fl fu fm ⊢
  have len : (rowsOf ms bs fr ms.length).length = ms.length := by unfold rowsOf; rw [List.length_map, List.length_range]
  have at_ : ∀ i (h : i < ms.length), (rowsOf ms bs fr ms.length)[i]'(by rw [len]; exact h) = rowAt ms bs fr i := fun i h => by unfold rowsOf; rw [List.getElem_map, List.getElem_range]
  have new : ∀ i x, (rowAt ms bs fr i).2 = some x → bs.getD i false = true ∧ ∃ h : (bs.take i).count true < fr.length, x = fr[(bs.take i).count true] := fun i x e => by
    unfold rowAt at e
    by_cases z : bs.getD i false = true
    · simp only [if_pos z] at e
      have hlt := cnt_all z
      rw [← fl] at hlt
      rw [getD_at _ hlt] at e
      exact ⟨z, hlt, (Option.some.inj e).symm⟩
    · simp only [if_neg z] at e
      cases e
  refine ⟨⟨?_, ?_, ?_, ?_, by rw [len]; omega⟩, ?_⟩
  · rw [List.pairwise_iff_getElem]
    intro i j hi hj hij
    rw [len] at hi hj
    rw [at_ i hi, at_ j hj]
    show ms.getD i [] < ms.getD j []
    rw [getD_at _ hi, getD_at _ hj]
    exact List.pairwise_iff_getElem.mp up i j hi hj hij
  · intro r hr
    obtain ⟨i, hi, rfl⟩ := List.mem_iff_getElem.mp hr
    rw [len] at hi
    rw [at_ i hi]
    show Mark L (ms.getD i []) ∧ (ms.getD i []).length ≤ 500
    rw [getD_at _ hi]
    have := hms ms[i] (List.getElem_mem hi)
    exact ⟨this.1, by omega⟩
  · rw [List.pairwise_iff_getElem]
    intro i j hi hj hij x y hx hy
    rw [len] at hi hj
    rw [at_ i hi] at hx
    rw [at_ j hj] at hy
    obtain ⟨b1, h1, rfl⟩ := new i x hx
    obtain ⟨b2, h2, rfl⟩ := new j y hy
    exact List.pairwise_iff_getElem.mp fu _ _ h1 h2 (cnt_lt hij b1)
  · intro r hr x e
    obtain ⟨i, hi, rfl⟩ := List.mem_iff_getElem.mp hr
    rw [len] at hi
    rw [at_ i hi] at e
    obtain ⟨b1, h1, rfl⟩ := new i x e
    have := fm _ (List.getElem_mem h1)
    exact ⟨this.1, by omega⟩
  · apply List.ext_getElem
    · rw [List.length_map, len]
    · intro i h1 h2
      rw [List.getElem_map, at_ i h2]
      show ms.getD i [] = _
      rw [getD_at _ h2]
def StandInv (H : Hp) : Nat → List V → Hp → Prop := fun i ys H' => ∃ bs : List Bool, Same H H' ∧ ys = bs.map V.bl ∧ bs.length = i
def RowsInv (sc p p4 p5 p6 : Addr) (L : Nat) (H : Hp) (ms : List (List Nat)) (bs : List Bool) (fr : List (List Nat)) : Nat → L2.St → Hp → Prop := fun i σ H' => ∃ (ys : List V) (v7 v8 : Option V), Same H H' ∧ H' p6 = some (.lst ys) ∧ Prs H' ys ((rowsOf ms bs fr i).map rowP) ∧
  σ = [some (.ref sc), some (.int 50), some (.int L), some (.ref p), some (.ref p4), some (.ref p5), some (.ref p6), v7, v8]
theorem read_lrows {K : PySem.W.Frag} {a : Ad} {N : List Str} {vs : List V} {H : Hp} {Q : VK} {E : XK} (hN : N.length = 9) (h : spLRows K vs H Q E) : rd_rows K a { nx := fun _ H' => Q .non H', rt := Q } (L2.start N vs) H := by
  obtain ⟨sc, ns, L, p, ms, rfl, hS, hl, hL, hL26, hM, hms, hml, up, q⟩ := h
  unfold rd_rows L2.start
  rw [hN]
  refine seq_any fun c hc => ?_
  and_intros
  suffices main : ∀ (H1 : Hp) (p4 : Addr) (bs : List Bool), Same H H1 → H1 p4 = none → bs.length = ms.length → c [some (.ref sc), some (.int 50), some (.int L), some (.ref p), some (.ref p4), none, none, none, none] (upd H1 p4 (.lst (bs.map V.bl))) by
    refine comp_r1 (j := ms.length) (fun Q h => by and_intros; exact lenL_go hM (by rw [List.length_map]; exact h)) (by omega) (by omega) (by rw [sizeLine_eq]; omega) (StandInv H) ⟨[], Same.refl _, rfl, rfl⟩ (fun i ys H' _ p => by obtain ⟨bs, _, e, e2⟩ := p; rw [e, List.length_map, e2]; exact Nat.le_refl _) ?_ ?_
    · rintro i ys H' hi ⟨bs, s1, rfl, eb⟩ W hW
      and_intros
      refine ⟨sc, ns, _, _, rfl, s1.seq hS, hl, by omega, by omega, by decide, fun r hr0 hr1 => ⟨_, rfl, hW _ _ ⟨bs ++ [decide (0 < r)], s1, by rw [List.map_append]; rfl, by rw [List.length_append, eb]; rfl⟩⟩⟩
    · rintro ys H' ⟨bs, s1, rfl, eb⟩ p4 hp4
      exact main H' p4 bs s1 hp4 (by omega)
  intro H1 p4 bs s1 hp4 hbl
  refine hc _ _ ?_
  clear hc c
  have s2 := s1.new hp4 (o := .lst (bs.map V.bl))
  have h4 : (upd H1 p4 (.lst (bs.map V.bl))) p4 = some (.lst (bs.map V.bl)) := upd_same
  generalize upd H1 p4 _ = H2 at s2 h4 ⊢
  have allf : ∀ bs : List Bool, (bs.map V.bl).all flatV = true := fun bs => by rw [List.all_eq_true]; intro v hv; obtain ⟨b, _, rfl⟩ := List.mem_map.mp hv; rfl
  refine seq_set fun c hc => ?_
  and_intros
  refine ⟨.inl ⟨rfl, _, SqL.of h4⟩, p4, _, _, rfl, rfl, SqL.of h4, rfl, allf bs, ?_⟩
  rw [cnt_bl]
  have hcl : bs.count true ≤ 40 := by have := List.count_le_length (a := true) (l := bs); omega
  refine ⟨L, bs.count true, rfl, hL, hL26, by omega, fun n p5 R hp5 => hc _ _ ?_⟩
  clear hc c
  obtain ⟨G1, G2⟩ := rows_good hL hms hml up hbl R
  have fl := renL_len L (bs.count true) n
  have s3 := s2.new hp5 (o := .lst ((renL L (bs.count true) n).map strV))
  have h4' : (upd H2 p5 (.lst ((renL L (bs.count true) n).map strV))) p4 = some (.lst (bs.map V.bl)) := (Same.up H2 hp5) _ _ h4
  have h5 : (upd H2 p5 (.lst ((renL L (bs.count true) n).map strV))) p5 = some (.lst ((renL L (bs.count true) n).map strV)) := upd_same
  generalize renL L (bs.count true) n = fr at G1 G2 fl s3 h4' h5 ⊢
  generalize upd H2 p5 _ = H3 at s3 h4' h5 ⊢
  refine seq_set fun c hc => ?_
  and_intros
  refine ⟨by decide, fun p6 hp6 => hc _ _ ?_⟩
  clear hc c
  refine seq_any fun c hc => ?_
  refine for_r1 (j := ms.length) (fun Q h => by
      and_intros
      exact lenL_go ((s3.new hp6).seq hM) (by rw [List.length_map]; exact h)) (by omega) (by omega) (RowsInv sc p p4 p5 p6 L H3 ms bs fr) ⟨[], _, _, Same.up _ hp6, upd_same, trivial, rfl⟩ ?_ ?_
  · rintro i σ H4 hi ⟨ys, v7, v8, s4, hr, hps, rfl⟩
    have hyl := hps.len
    rw [List.length_map, rowsOf, List.length_map, List.length_range] at hyl
    have hM4 := (s3.trans s4).seq hM
    obtain ⟨m, hmi⟩ := some_at (l := ms) (i := i) (by omega)
    obtain ⟨b, hbi⟩ := some_at (l := bs) (i := i) (by omega)
    have em : ms.getD i [] = m := by rw [List.getD_eq_getElem?_getD, hmi]; rfl
    have eb : bs.getD i false = b := by rw [List.getD_eq_getElem?_getD, hbi]; rfl
    refine seq_set fun c hc => ?_
    and_intros
    refine hc _ _ ?_
    clear hc c
    refine seq_any fun c hc => ?_
    suffices m2 : ∀ (H5 : Hp) (v : Option (List Nat)), Same H4 H5 → v = (rowAt ms bs fr i).2 → c [some (.ref sc), some (.int 50), some (.int L), some (.ref p), some (.ref p4), some (.ref p5), some (.ref p6), some (.int i), some (oV v)] H5 by
      and_intros
      refine ixL_go (v := .bl b) (SqL.of (s4 _ _ h4')) (by omega) (by rw [Int.toNat_natCast, List.getElem?_map, hbi]; rfl) ⟨_, rfl, ?_⟩
      cases b with
      | false =>
        rw [if_neg (by decide)]
        exact m2 H4 none (Same.refl _) (by unfold rowAt; rw [eb]; rfl)
      | true =>
        rw [if_pos rfl]
        refine slL_go (SqL.of (s4 _ _ h4')) fun p9 hp9 => ?_
        rw [cutV_to (by rw [List.length_map]; omega), ← List.map_take]
        refine ⟨.inl ⟨rfl, _, SqL.here⟩, p9, _, _, rfl, rfl, SqL.here, rfl, allf _, ?_⟩
        rw [cnt_bl]
        have hlt := cnt_all eb
        rw [← fl] at hlt
        obtain ⟨x, hx⟩ := some_at (l := fr) (i := (bs.take i).count true) hlt
        refine ixL_go (v := strV x) (SqL.of ((s4.new hp9) _ _ h5)) (by omega) (by rw [Int.toNat_natCast, List.getElem?_map, hx]; rfl) ?_
        have ef : fr.getD ((bs.take i).count true) [] = x := by rw [List.getD_eq_getElem?_getD, hx]; rfl
        exact m2 _ (some x) (Same.up H4 hp9) (by unfold rowAt; rw [eb, ef]; rfl)
    intro H5 v s5 ev
    refine hc _ _ ?_
    clear hc c
    have s45 := s4.trans s5
    have hr5 := s5 _ _ hr
    have hps5 := hps.same s5
    and_intros
    refine ⟨.inl ⟨rfl, _, SqL.of hr5⟩, ?_⟩
    refine ixL_go (v := strV m) (s5.seq hM4) (by omega) (by rw [Int.toNat_natCast, List.getElem?_map, hmi]; rfl) ?_
    refine ⟨by decide, fun t2 ht2 => ?_⟩
    have h3 : p6 ≠ t2 := fun z => by subst z; rw [hr5] at ht2; cases ht2
    refine ⟨p6, ys, _, rfl, rfl, by rw [upd_ne h3]; exact hr5, by rw [hyl, sizeLine_eq]; omega, ?_⟩
    refine ⟨ys ++ [.ref t2], _, _, (s45.new ht2).set hp6, upd_same, ?_, rfl⟩
    rw [rowsOf_succ, List.map_append]
    refine (hps5.keep (keep_list ht2 hr5)).app ⟨⟨t2, rfl, ?_⟩, trivial⟩
    rw [upd_ne (Ne.symm h3), upd_same]
    have e1 : (rowAt ms bs fr i).1 = m := em
    show some (HO.tup [strV m, oV v]) = some (HO.tup [strV (rowAt ms bs fr i).1, oV (rowAt ms bs fr i).2])
    rw [e1, ev]
  · rintro σ H4 ⟨ys, v7, v8, s4, hr, hps, rfl⟩
    refine hc _ _ ?_
    and_intros
    exact q H4 p6 _ (s3.trans s4) ⟨ys, SqL.of hr, hps⟩ G1 G2
end K42
set_option Elab.async false
set_option linter.all false
set_option maxRecDepth 100000
set_option maxHeartbeats 4000000
namespace K42
open PySem PySem.Spec PyProof.Rows L2 MM
def fK (kv : List Nat × V) : Key × V := (Key.inr (txt kv.1), kv.2)
theorem valV_fK (m : List Nat) : ∀ kvs : List (List Nat × V), valV (kvs.map fK) (Key.inr (txt m)) = valV kvs m
  | [] => rfl
  | kv :: kvs => by
    rw [List.map_cons]
    by_cases e : kv.1 = m
    · rw [valV_pos (show (fK kv).1 = Key.inr (txt m) by rw [← e]; rfl), valV_pos e]; rfl
    · rw [valV_neg (fun z : (fK kv).1 = Key.inr (txt m) => e (txt_inj.mp (by injection z))), valV_neg e]
      exact valV_fK m kvs
theorem putK_fK (kvs : List (List Nat × V)) (m : List Nat) (v : V) : putK (kvs.map fK) (Key.inr (txt m)) v = (putK kvs m v).map fK := by
  have e : ((kvs.map fK).any fun kv => decide (kv.1 = Key.inr (txt m))) = kvs.any fun kv => decide (kv.1 = m) := by
    rw [valV_any, valV_any, valV_fK]
  unfold putK
  rw [e]
  by_cases h : (kvs.any fun kv => decide (kv.1 = m)) = true
  · rw [if_pos h, if_pos h, List.map_map, List.map_map]
    refine List.map_congr_left fun kv _ => ?_
    show (if (fK kv).1 = Key.inr (txt m) then ((fK kv).1, v) else fK kv) = fK (if kv.1 = m then (kv.1, v) else kv)
    by_cases z : kv.1 = m
    · rw [if_pos (show (fK kv).1 = Key.inr (txt m) by rw [← z]; rfl), if_pos z]; rfl
    · rw [if_neg (fun q : (fK kv).1 = Key.inr (txt m) => z (txt_inj.mp (by injection q))), if_neg z]
  · rw [if_neg h, if_neg h, List.map_append]
    rfl
theorem nd_put {kvs : List (List Nat × V)} {m : List Nat} {v : V} (h : (kvs.map (·.1)).Nodup) : ((putK kvs m v).map (·.1)).Nodup := by
  cases e : valV kvs m with
  | none => exact nd_putK v h e
  | some x =>
    unfold putK
    rw [if_pos (by rw [valV_any, e]; rfl), List.map_map]
    have : ((fun kv : List Nat × V => kv.1) ∘ fun kv => if kv.1 = m then (kv.1, v) else kv) = fun kv => kv.1 := by
      funext kv
      show (if kv.1 = m then (kv.1, v) else kv).1 = kv.1
      split <;> rfl
    rw [this]
    exact h
theorem val_mem {m : List Nat} : ∀ {kvs : List (List Nat × V)}, m ∈ kvs.map (·.1) → ∃ v, valV kvs m = some v
  | [], h => by simp at h
  | kv :: kvs, h => by
    by_cases e : kv.1 = m
    · exact ⟨_, valV_pos e⟩
    · rw [valV_neg e]
      rcases List.mem_cons.mp h with z | z
      · exact absurd z.symm e
      · exact val_mem z
structure Found (L : Nat) (R : List RwN) (kvs : List (List Nat × V)) : Prop where
  nd : (kvs.map (·.1)).Nodup
  ok : ∀ m v, valV kvs m = some v → ∃ o, v = oV o ∧ Car L R m o ∧ Mark L m ∧ m.length ≤ 300
theorem Found.put {L : Nat} {R : List RwN} {kvs : List (List Nat × V)} (F : Found L R kvs) {m : List Nat} {o : Option (List Nat)} (C : Car L R m o) (M : Mark L m) (hm : m.length ≤ 300) : Found L R (putK kvs m (oV o)) where
  nd := nd_put F.nd
  ok := fun m' v e => by
    rw [valV_put] at e
    split at e
    · rename_i q
      subst q
      injection e with e
      exact ⟨o, e.symm, C, M, hm⟩
    · exact F.ok _ _ e
theorem ls_b {L : Nat} (hL : 2 ≤ L) {t : List Nat} (h : ∀ c ∈ t, c = 97 ∨ c = 98) : Ls L t := fun c hc => by
  rcases h c hc with e | e <;> omega
theorem mark_b {L : Nat} (hL : 2 ≤ L) {a t : List Nat} (h : Ls L a) (ht : ∀ c ∈ t, c = 97 ∨ c = 98) (hn : Na t) (ne : t ≠ []) : Mark L (a ++ t) := ⟨h.app (ls_b hL ht), Na.app hn ne, by simp [ne]⟩
theorem strip_sub {p : Nat → Bool} {l : List Nat} : (∀ c ∈ rstripL p l, c ∈ l) ∧ (rstripL p l).length ≤ l.length := by
  have h : (l.reverse.dropWhile p).Sublist l.reverse := List.dropWhile_sublist _
  constructor
  · intro c hc
    unfold rstripL at hc
    exact List.mem_reverse.mp (h.subset (List.mem_reverse.mp hc))
  · unfold rstripL
    rw [List.length_reverse]
    have := h.length_le
    rwa [List.length_reverse] at this
theorem strOk_ls {L : Nat} (hL : L ≤ 26) {m : List Nat} (h : Ls L m) : PyData.strOk (txt m) = true := by
  unfold PyData.strOk txt
  simp only [Array.all_eq_true_iff_forall_mem, List.mem_toArray, decide_eq_true_eq]
  intro c hc; have := h c hc; omega
theorem rows_okV {L : Nat} {R : List RwN} (hL : L ≤ 26) (O : RowsOk L R) : ∀ p ∈ R.map rowP, OkV p.1 ∧ OkV p.2 := fun p hp => by
  obtain ⟨r, hr, rfl⟩ := List.mem_map.mp hp
  refine ⟨.str (strOk_ls hL (O.olds r hr).1.ls), ?_⟩
  show OkV (oV r.2)
  cases e : r.2 with
  | none => exact .non
  | some x => exact .str (strOk_ls hL (O.marks r hr x e).1.ls)
theorem scal_oV (a b : Option (List Nat)) : scal (oV a) (oV b) = true := by cases a <;> cases b <;> rfl
def GoodM (L : Nat) (m : List Nat) : Prop := Mark L m ∧ m.length ≤ 300
def OthInv (sc p2 p3 p4 : Addr) (L : Nat) (H : Hp) : Nat → L2.St → Hp → Prop := fun i σ H' => ∃ (os : List (List Nat)) (v5 v6 : Option V), Same H H' ∧ H' p4 = some (.lst (os.map strV)) ∧ (∀ m ∈ os, GoodM L m) ∧ os.length ≤ 8 + 2 * i ∧
  σ = [some (.ref sc), some (.int L), some (.ref p2), some (.ref p3), some (.ref p4), v5, v6, none, none, none, none, none]
structure SD (d : Addr) (H H' : Hp) : Prop where
  keep : ∀ b o, H b = some o → b ≠ d → H' b = some o
  isD : ∃ kvs, H d = some (.dK kvs)
theorem SD.at {d : Addr} {H H' : Hp} (e : SD d H H') {a : Addr} {o : HO} (h : H a = some o) (no : ∀ kvs, o ≠ .dK kvs) : H' a = some o := e.keep a o h fun z => by
  obtain ⟨kvs, hd⟩ := e.isD
  subst z
  rw [hd] at h
  exact no kvs (Option.some.inj h).symm
theorem SD.seq {K : PySem.W.Frag} {d : Addr} {H H' : Hp} {a : Addr} {xs : List V} (e : SD d H H') (h : SqL K H a xs) : SqL K H' a xs := by
  rcases h with (h | ⟨o, h⟩) | h
  · exact .inl (.inl (e.at h fun _ z => nomatch z))
  · exact .inl (.inr ⟨o, e.at h fun _ z => nomatch z⟩)
  · exact .inr h
theorem SD.rows {K : PySem.W.Frag} {d : Addr} {H H' : Hp} {p : Addr} {R : List RwN} (e : SD d H H') (h : AtRows K H p R) : AtRows K H' p R := by
  obtain ⟨xs, a, b⟩ := h
  exact ⟨xs, e.seq a, b.keep fun t ys h => e.at h fun _ z => nomatch z⟩
theorem SD.same {d : Addr} {H H1 H2 : Hp} (e : SD d H H1) (s : Same H1 H2) : SD d H H2 := ⟨fun b o h n => s _ _ (e.keep b o h n), e.isD⟩
theorem SD.set {d : Addr} {H H1 : Hp} {o : HO} (e : SD d H H1) : SD d H (upd H1 d o) := ⟨fun b q h n => by rw [upd_ne n]; exact e.keep b q h n, e.isD⟩
def FndInv (sc p2 p3 p4 p7 p8 : Addr) (L : Nat) (R : List RwN) (v5 v6 : Option V) (H : Hp) : Nat → L2.St → Hp → Prop := fun i σ H' => ∃ (kvs : List (List Nat × V)) (v9 v10 : Option V), SD p7 H H' ∧ H' p7 = some (.dK (kvs.map fK)) ∧ Found L R kvs ∧ kvs.length ≤ i ∧
  σ = [some (.ref sc), some (.int L), some (.ref p2), some (.ref p3), some (.ref p4), v5, v6, some (.ref p7), some (.ref p8), v9, v10, none]
end K42
set_option Elab.async false
set_option linter.all false
set_option maxRecDepth 100000
set_option maxHeartbeats 4000000
namespace K42
open PySem PySem.Spec PyProof.Rows L2 MM
theorem cut_two (os : List (List Nat)) : cutV (os.map strV) none (some 2) = (os.take 2).map strV := by
  rw [show (2 : Int) = ((2 : Nat) : Int) from rfl]
  unfold cutV
  rw [HT.sIx_nat, HT.sIx_none, List.drop_zero, Nat.sub_zero, List.map_take]
  exact List.take_eq_take_min.symm
def RowInv (L : Nat) (R : List RwN) (H : Hp) (zs : List (List Nat)) : Nat → List V → Hp → Prop := fun i ys H' => H' = H ∧ ∃ us : List (List Nat), ys = us.map strV ∧ us.Pairwise (· < ·) ∧ us.length ≤ i ∧ ∀ u ∈ us, ∃ z ∈ zs.take i, Car L R z (some u)
theorem na_of {t : List Nat} (h : t.getLast? = some 98) : Na t := fun c hc => by
  rw [h] at hc
  cases hc
  decide
theorem read_law {K : PySem.W.Frag} {a : Ad} {N : List Str} {vs : List V} {H : Hp} {Q : VK} {E : XK} (hN : N.length = 12) (h : spLaw K vs H Q E) : rd_law K a { nx := fun _ H' => Q .non H', rt := Q } (L2.start N vs) H := by
  obtain ⟨sc, ns, rfl, hS, hl, q⟩ := h
  unfold rd_law L2.start
  rw [hN]
  refine seq_set fun c hc => ?_
  and_intros
  refine ⟨sc, ns, rfl, hS, hl, fun H1 L s1 hL hL26 => hc _ _ ?_⟩
  clear hc c
  refine seq_set fun c hc => ?_
  and_intros
  refine ⟨sc, ns, _, _, rfl, s1.seq hS, hl, by decide, by decide, by decide, fun r hr0 hr1 => ?_⟩
  obtain ⟨n, rfl⟩ := Int.eq_ofNat_of_zero_le hr0
  refine ⟨sc, ns, _, L, n, rfl, s1.seq hS, hl, by decide, by decide, hL, hL26, by omega, fun H2 p2 ms s2 hp2 hms hml up => hc _ _ ?_⟩
  clear hc c
  have s3 := (s1.trans s2).new (o := HO.lst (ms.map strV)) hp2
  have hM : (upd H2 p2 (HO.lst (ms.map strV))) p2 = some (.lst (ms.map strV)) := upd_same
  generalize upd H2 p2 _ = H3 at s3 hM ⊢
  refine seq_set fun c hc => ?_
  and_intros
  refine ⟨sc, ns, L, p2, ms, rfl, s3.seq hS, hl, hL, hL26, SqL.of hM, hms, by omega, up, fun H4 p3 R s4 hA O eR => hc _ _ ?_⟩
  clear hc c
  have s34 := s3.trans s4
  replace hM := s4 _ _ hM
  refine seq_set fun c hc => ?_
  and_intros
  refine ⟨sc, ns, _, L, 8, rfl, s34.seq hS, hl, by decide, by decide, hL, hL26, by omega, fun H5 p4 os s5 hp4 hos hol _ => hc _ _ ?_⟩
  clear hc c
  have s45 := s34.trans s5
  replace hM := s5 _ _ hM
  replace hA := hA.same s5
  refine seq_any fun c hc => ?_
  suffices main : ∀ (os : List (List Nat)) (v5 v6 : Option V) (H6 : Hp), Same H5 H6 → H6 p4 = some (.lst (os.map strV)) → (∀ m ∈ os, GoodM L m) → os.length ≤ 16 → c [some (.ref sc), some (.int L), some (.ref p2), some (.ref p3), some (.ref p4), v5, v6, none, none, none, none, none] H6 by
    have hM0 := (Same.up H5 hp4 (o := .lst (os.map strV))) _ _ hM
    refine for_r1 (j := if (ms.length : Int) < 4 then (ms.length : Int) else 4) (fun Q h => by
      and_intros
      refine lenL_go (SqL.of hM0) ?_
      rw [List.length_map]
      exact ⟨_, _, rfl, h⟩) (by split <;> omega) (by split <;> omega) (OthInv sc p2 p3 p4 L H5)
      ⟨os, _, _, Same.up _ hp4, upd_same, fun m h => ⟨(hos m h).1, by have := (hos m h).2; omega⟩, by omega, rfl⟩ ?_ ?_
    · rintro i σ H6 hi ⟨os, v5, v6, s6, h4, ho, hlo, rfl⟩
      have hi2 : i < ms.length ∧ i < 4 := by split at hi <;> omega
      have hS6 := (s45.trans s6).seq hS
      have hM6 := s6 _ _ hM
      refine seq_set fun c hc => ?_
      and_intros
      refine lenL_go (SqL.of hM6) ?_
      rw [List.length_map]
      refine ⟨sc, ns, _, _, rfl, hS6, hl, by omega, by omega, by omega, fun r hr0 hr1 => ?_⟩
      obtain ⟨one, hone⟩ := some_at (l := ms) (i := r.toNat) (by omega)
      refine ixL_go (v := strV one) (SqL.of hM6) hr0 (by rw [List.getElem?_map, hone]; rfl) (hc _ _ ?_)
      clear hc c
      have hm1 := hms one (List.mem_of_getElem? hone)
      refine seq_any fun c hc => ?_
      suffices m2 : ∀ (t : List Nat) (H7 : Hp), Same H5 H7 → H7 p4 = some (.lst (os.map strV ++ [V.str (txt (one ++ t))])) → GoodM L (one ++ t) →
          c [some (.ref sc), some (.int L), some (.ref p2), some (.ref p3), some (.ref p4), some (.int i), some (strV one), none, none, none, none, none] H7 by
        simp only [strV, tCompSet,tRaise,tIsi,tSeq,tAsg,gName,tOp,tUn,tVar,tC,tTest,tB,tIf,tIfS,tAnd,tOr,tNot,tAndV,tOrV,tNotV,tRet,tRetN,tNext,tDrop,tCB,tCons,tNil,tBM,tBM0,tCall,tLst,tTup,tSl,tPart,tNoPart,tIsN,tNotN,tYes,tBreak,tCont,rI0,rI,rU,rEq,rNe,L2.start,compSt,List.map_cons,List.map_nil,List.length_cons,List.length_nil,List.replicate_succ,List.replicate_zero,List.cons_append,List.nil_append,List.append_nil,List.getElem?_cons_zero,List.getElem?_cons_succ,List.set_cons_zero,List.set_cons_succ,Option.some.injEq,Option.join_some,V.int.injEq,V.str.injEq,V.bl.injEq,V.ref.injEq,txt_inj,exists_eq_left',exists_eq_left,exists_and_left,and_true,true_and,decide_eq_true_eq,reduceCtorEq,decide_false,decide_true,Bool.not_false,Bool.not_true,if_true,if_false,Bool.false_eq_true,Nat.reduceAdd,Nat.reduceSub,Bool.not_eq_true',decide_eq_false_iff_not,not_true_eq_false,not_false_eq_true]
        refine ⟨.inl ⟨rfl, _, SqL.of h4⟩, by decide, fun p9 hp9 => ?_⟩
        have s7 := Same.up H6 hp9 (o := .lst [V.str (txt [98]), V.str (txt [97, 98]), V.str (txt [97, 97, 98])])
        refine ⟨sc, ns, _, _, rfl, s7.seq hS6, hl, by omega, by omega, by decide, fun r2 hr20 hr21 => ?_⟩
        have fin : ∀ t : List Nat, t.length ≤ 3 → (∀ c ∈ t, c = 97 ∨ c = 98) → Na t → t ≠ [] → rAddS (V.str (txt one)) (.str (txt t)) (upd H6 p9 (.lst [V.str (txt [98]), V.str (txt [97, 98]), V.str (txt [97, 97, 98])])) fun x H1 => rAppend (.ref p4) [x] H1 fun _ H1 => c [some (.ref sc), some (.int L), some (.ref p2), some (.ref p3), some (.ref p4), some (.int i), some (strV one), none, none, none, none, none] H1 := fun t t1 t2 t3 t4 => by
          refine addS_go (by omega) ?_
          refine append_go (s7 _ _ h4) (by rw [List.length_map]; omega) ?_
          exact m2 t _ ((s6.trans s7).set hp4) upd_same ⟨mark_b hL hm1.1.ls t2 t3 t4, by rw [List.length_append]; omega⟩
        have e3 : r2.toNat = 0 ∨ r2.toNat = 1 ∨ r2.toNat = 2 := by omega
        rcases e3 with e | e | e
        · exact ixL_go (v := .str (txt [98])) SqL.here hr20 (by rw [e]; rfl) (fin [98] (by decide) (by decide) (na_of rfl) (by decide))
        · exact ixL_go (v := .str (txt [97, 98])) SqL.here hr20 (by rw [e]; rfl) (fin [97, 98] (by decide) (by decide) (na_of rfl) (by decide))
        · exact ixL_go (v := .str (txt [97, 97, 98])) SqL.here hr20 (by rw [e]; rfl) (fin [97, 97, 98] (by decide) (by decide) (na_of rfl) (by decide))
      intro t H7 s7 h47 hg
      refine hc _ _ ?_
      clear hc c
      have hS7 := (s45.trans s7).seq hS
      have h48 : H7 p4 = some (.lst ((os ++ [one ++ t]).map strV)) := by rw [h47, List.map_append]; rfl
      have ho8 : ∀ m ∈ os ++ [one ++ t], GoodM L m := fun m h => by
        rcases List.mem_append.mp h with h | h
        · exact ho m h
        · rw [List.mem_singleton.mp h]; exact hg
      have hl8 : (os ++ [one ++ t]).length = os.length + 1 := by rw [List.length_append]; rfl
      generalize os ++ [one ++ t] = os2 at h48 ho8 hl8 ⊢
      simp only [strV, tCompSet,tRaise,tIsi,tSeq,tAsg,gName,tOp,tUn,tVar,tC,tTest,tB,tIf,tIfS,tAnd,tOr,tNot,tAndV,tOrV,tNotV,tRet,tRetN,tNext,tDrop,tCB,tCons,tNil,tBM,tBM0,tCall,tLst,tTup,tSl,tPart,tNoPart,tIsN,tNotN,tYes,tBreak,tCont,rI0,rI,rU,rEq,rNe,L2.start,compSt,List.map_cons,List.map_nil,List.length_cons,List.length_nil,List.replicate_succ,List.replicate_zero,List.cons_append,List.nil_append,List.append_nil,List.getElem?_cons_zero,List.getElem?_cons_succ,List.set_cons_zero,List.set_cons_succ,Option.some.injEq,Option.join_some,V.int.injEq,V.str.injEq,V.bl.injEq,V.ref.injEq,txt_inj,exists_eq_left',exists_eq_left,exists_and_left,and_true,true_and,decide_eq_true_eq,reduceCtorEq,decide_false,decide_true,Bool.not_false,Bool.not_true,if_true,if_false,Bool.false_eq_true,Nat.reduceAdd,Nat.reduceSub,Bool.not_eq_true',decide_eq_false_iff_not,not_true_eq_false,not_false_eq_true]
      refine lenS_go (by omega) ⟨_, rfl, ?_⟩
      by_cases z : (1 : Int) < (one.length : Int)
      · rw [if_pos (by simpa using z)]
        refine ⟨.inl ⟨rfl, _, SqL.of h48⟩, ?_⟩
        refine lenS_go (by omega) ⟨_, rfl, ?_⟩
        refine ⟨sc, ns, _, _, rfl, hS7, hl, by omega, by omega, by omega, fun r3 hr30 hr31 => ?_⟩
        and_intros
        refine slTo_go (by omega) (by omega) (by omega) ?_
        refine ⟨rfl, ?_⟩
        have l1 : (one.take (1 + r3).toNat).length ≤ 200 := by rw [List.length_take]; omega
        refine rstrip_go (by omega) ?_
        obtain ⟨q1, q2⟩ := strip_sub (p := fun c => [97].contains c) (l := one.take (1 + r3).toNat)
        refine addS_go (by simp only [List.length_cons, List.length_nil]; omega) ?_
        refine append_go h48 (by rw [List.length_map]; omega) ?_
        refine ⟨os2 ++ [rstripL (fun c => [97].contains c) (one.take (1 + r3).toNat) ++ [98]], _, _, s7.set hp4, by rw [upd_same, List.map_append]; rfl, fun m h => ?_, by rw [List.length_append, hl8, List.length_singleton]; omega, rfl⟩
        rcases List.mem_append.mp h with h | h
        · exact ho8 m h
        · rw [List.mem_singleton.mp h]
          exact ⟨mark_b hL (hm1.1.ls.sub fun c hc => List.mem_of_mem_take (q1 c hc)) (by decide) (na_of rfl) (by decide), by rw [List.length_append, List.length_singleton]; omega⟩
      · rw [if_neg (by simpa using z)]
        exact ⟨_, _, _, s7, h48, ho8, by omega, rfl⟩
    · rintro σ H6 ⟨os, v5, v6, s6, h4, ho, hlo, rfl⟩
      exact main os v5 v6 H6 s6 h4 ho (by split at hlo <;> omega)
  intro os v5 v6 H6 s6 h4 ho hlo
  refine hc _ _ ?_
  clear hc c
  have hM6 := s6 _ _ hM
  have hA6 := hA.same s6
  refine seq_set fun c hc => ?_
  simp only [tDNewK, tCompSet,tRaise,tIsi,tSeq,tAsg,gName,tOp,tUn,tVar,tC,tTest,tB,tIf,tIfS,tAnd,tOr,tNot,tAndV,tOrV,tNotV,tRet,tRetN,tNext,tDrop,tCB,tCons,tNil,tBM,tBM0,tCall,tLst,tTup,tSl,tPart,tNoPart,tIsN,tNotN,tYes,tBreak,tCont,rI0,rI,rU,rEq,rNe,L2.start,compSt,List.map_cons,List.map_nil,List.length_cons,List.length_nil,List.replicate_succ,List.replicate_zero,List.cons_append,List.nil_append,List.append_nil,List.getElem?_cons_zero,List.getElem?_cons_succ,List.set_cons_zero,List.set_cons_succ,Option.some.injEq,Option.join_some,V.int.injEq,V.str.injEq,V.bl.injEq,V.ref.injEq,txt_inj,exists_eq_left',exists_eq_left,exists_and_left,and_true,true_and,decide_eq_true_eq,reduceCtorEq,decide_false,decide_true,Bool.not_false,Bool.not_true,if_true,if_false,Bool.false_eq_true,Nat.reduceAdd,Nat.reduceSub,Bool.not_eq_true',decide_eq_false_iff_not,not_true_eq_false,not_false_eq_true]
  intro p7 hp7
  refine hc _ _ ?_
  clear hc c
  have s7 := Same.up H6 hp7 (o := .dK [])
  have h7 : (upd H6 p7 (.dK [])) p7 = some (.dK []) := upd_same
  replace hM6 := s7 _ _ hM6
  replace h4 := s7 _ _ h4
  replace hA6 := hA6.same s7
  generalize upd H6 p7 _ = H7 at s7 h7 hM6 h4 hA6 ⊢
  refine seq_set fun c hc => ?_
  and_intros
  obtain ⟨xs, hq, hp⟩ := id hA6
  refine ⟨p3, xs, rfl, .inl hq, fun p8 hp8 => hc _ _ ?_⟩
  clear hc c
  have s8 := Same.up H7 hp8 (o := .lst xs)
  have hA8 : AtRows K (upd H7 p8 (.lst xs)) p8 R := ⟨xs, SqL.here, hp.same s8⟩
  replace hM6 := s8 _ _ hM6
  replace h4 := s8 _ _ h4
  replace hA6 := hA6.same s8
  replace h7 := s8 _ _ h7
  generalize upd H7 p8 _ = H8 at s8 hA8 h7 hM6 h4 hA6 ⊢
  refine seq_any fun c hc => ?_
  refine for_by fun R0 hR0 => ?_
  simp only [iList, tCompSet,tRaise,tIsi,tSeq,tAsg,gName,tOp,tUn,tVar,tC,tTest,tB,tIf,tIfS,tAnd,tOr,tNot,tAndV,tOrV,tNotV,tRet,tRetN,tNext,tDrop,tCB,tCons,tNil,tBM,tBM0,tCall,tLst,tTup,tSl,tPart,tNoPart,tIsN,tNotN,tYes,tBreak,tCont,rI0,rI,rU,rEq,rNe,L2.start,compSt,List.map_cons,List.map_nil,List.length_cons,List.length_nil,List.replicate_succ,List.replicate_zero,List.cons_append,List.nil_append,List.append_nil,List.getElem?_cons_zero,List.getElem?_cons_succ,List.set_cons_zero,List.set_cons_succ,Option.some.injEq,Option.join_some,V.int.injEq,V.str.injEq,V.bl.injEq,V.ref.injEq,txt_inj,exists_eq_left',exists_eq_left,exists_and_left,and_true,true_and,decide_eq_true_eq,reduceCtorEq,decide_false,decide_true,Bool.not_false,Bool.not_true,if_true,if_false,Bool.false_eq_true,Nat.reduceAdd,Nat.reduceSub,Bool.not_eq_true',decide_eq_false_iff_not,not_true_eq_false,not_false_eq_true]
  refine cat_go h4 hM6 (by rw [List.length_map, List.length_map]; omega) fun pa hpa => ?_
  have s9 := Same.up H8 hpa (o := .lst (os.map strV ++ ms.map strV))
  refine slL_go (SqL.of (s9 _ _ h4)) fun pb hpb => ?_
  have s10 := Same.up _ hpb (o := .lst (cutV (os.map strV) none (some 2)))
  refine cat_go (s10 _ _ upd_same) upd_same (by rw [List.length_append, List.length_map, List.length_map, cut_two, List.length_map, List.length_take]; omega) fun pc hpc => ⟨pc, rfl, ⟨_, SqL.here⟩, ?_⟩
  rw [hR0]
  have s11 := (s9.trans s10).new hpc (o := .lst (os.map strV ++ ms.map strV ++ cutV (os.map strV) none (some 2)))
  have hC : (upd (upd (upd H8 pa (.lst (os.map strV ++ ms.map strV))) pb (.lst (cutV (os.map strV) none (some 2)))) pc (.lst (os.map strV ++ ms.map strV ++ cutV (os.map strV) none (some 2)))) pc = some (.lst ((os ++ ms ++ os.take 2).map strV)) := by
    rw [upd_same, cut_two, List.map_append, List.map_append]
  replace hM6 := s11 _ _ hM6
  replace hA6 := hA6.same s11
  replace hA8 := hA8.same s11
  replace h7 := s11 _ _ h7
  generalize upd (upd (upd H8 pa _) pb _) pc _ = H9 at hC h7 hM6 hA6 hA8 ⊢
  have hall : ∀ m ∈ os ++ ms ++ os.take 2, GoodM L m := fun m h => by
    rcases List.mem_append.mp h with h | h
    · rcases List.mem_append.mp h with h | h
      · exact ho m h
      · exact ⟨(hms m h).1, by have := (hms m h).2; omega⟩
    · exact ho m (List.mem_of_mem_take h)
  have hal : (os ++ ms ++ os.take 2).length ≤ 40 := by rw [List.length_append, List.length_append, List.length_take]; omega
  generalize os ++ ms ++ os.take 2 = al at hC hall hal ⊢
  refine for_list (K := K) (xs := al.map strV) (FndInv sc p2 p3 p4 p7 p8 L R v5 v6 H9) ⟨[], _, _, ⟨fun b o h _ => h, ⟨[], h7⟩⟩, h7, ⟨List.nodup_nil, fun m v h => by cases h⟩, Nat.zero_le _, rfl⟩
    (fun i σ H' _ h => by obtain ⟨_, _, _, sd, _⟩ := h; exact sd.seq (SqL.of hC)) ?_ ?_
  · rintro i x σ H10 hx ⟨kvs, v9, v10, sd, hf, F, hkl, rfl⟩
    rw [List.getElem?_map] at hx
    obtain ⟨m, hm, rfl⟩ := Option.map_eq_some_iff.mp hx
    have hil : i < al.length := (List.getElem?_eq_some_iff.mp hm).1
    have gm := hall m (List.mem_of_getElem? hm)
    have gm2 := gm.2
    refine seq_set fun c hc => ?_
    simp only [strV, tCompSet,tRaise,tIsi,tSeq,tAsg,gName,tOp,tUn,tVar,tC,tTest,tB,tIf,tIfS,tAnd,tOr,tNot,tAndV,tOrV,tNotV,tRet,tRetN,tNext,tDrop,tCB,tCons,tNil,tBM,tBM0,tCall,tLst,tTup,tSl,tPart,tNoPart,tIsN,tNotN,tYes,tBreak,tCont,rI0,rI,rU,rEq,rNe,L2.start,compSt,List.map_cons,List.map_nil,List.length_cons,List.length_nil,List.replicate_succ,List.replicate_zero,List.cons_append,List.nil_append,List.append_nil,List.getElem?_cons_zero,List.getElem?_cons_succ,List.set_cons_zero,List.set_cons_succ,Option.some.injEq,Option.join_some,V.int.injEq,V.str.injEq,V.bl.injEq,V.ref.injEq,txt_inj,exists_eq_left',exists_eq_left,exists_and_left,and_true,true_and,decide_eq_true_eq,reduceCtorEq,decide_false,decide_true,Bool.not_false,Bool.not_true,if_true,if_false,Bool.false_eq_true,Nat.reduceAdd,Nat.reduceSub,Bool.not_eq_true',decide_eq_false_iff_not,not_true_eq_false,not_false_eq_true]
    refine ⟨L, p8, R, m, rfl, hL, hL26, sd.rows hA8, O, gm.1, by omega, fun H11 v s12 C => hc _ _ ?_⟩
    clear hc c
    replace sd := sd.same s12
    replace hf := s12 _ _ hf
    have hA3 := sd.rows hA6
    refine seq_any fun c hc => ?_
    and_intros
    obtain ⟨x8, q8, w8⟩ := sd.rows hA8
    obtain ⟨x3, q3, w3⟩ := id hA3
    refine eq_pairs q8 q3 w8 w3 (rows_okV hL26 O) ⟨_, rfl, ?_⟩
    and_intros
    refine ⟨L, p3, R, m, rfl, hL, hL26, hA3, O, gm.1, by omega, fun H12 v' s13 C' => ?_⟩
    obtain rfl := C.one O hL C'
    refine ⟨scal_oV _ _, ?_⟩
    and_intros
    refine hc _ _ ?_
    clear hc c
    replace sd := sd.same s13
    replace hf := s13 _ _ hf
    have hg : DGet H12 p7 (.str (txt m)) (valV kvs m) := by
      have := DGet.k (k := Key.inr (txt m)) hf
      rw [valV_fK] at this
      exact this
    refine seq_any fun c hc => ?_
    simp only [tDGet, tCompSet,tRaise,tIsi,tSeq,tAsg,gName,tOp,tUn,tVar,tC,tTest,tB,tIf,tIfS,tAnd,tOr,tNot,tAndV,tOrV,tNotV,tRet,tRetN,tNext,tDrop,tCB,tCons,tNil,tBM,tBM0,tCall,tLst,tTup,tSl,tPart,tNoPart,tIsN,tNotN,tYes,tBreak,tCont,rI0,rI,rU,rEq,rNe,L2.start,compSt,List.map_cons,List.map_nil,List.length_cons,List.length_nil,List.replicate_succ,List.replicate_zero,List.cons_append,List.nil_append,List.append_nil,List.getElem?_cons_zero,List.getElem?_cons_succ,List.set_cons_zero,List.set_cons_succ,Option.some.injEq,Option.join_some,V.int.injEq,V.str.injEq,V.bl.injEq,V.ref.injEq,txt_inj,exists_eq_left',exists_eq_left,exists_and_left,and_true,true_and,decide_eq_true_eq,reduceCtorEq,decide_false,decide_true,Bool.not_false,Bool.not_true,if_true,if_false,Bool.false_eq_true,Nat.reduceAdd,Nat.reduceSub,Bool.not_eq_true',decide_eq_false_iff_not,not_true_eq_false,not_false_eq_true]
    refine ⟨p7, _, rfl, hg, _, rfl, ?_⟩
    suffices m2 : c [some (.ref sc), some (.int L), some (.ref p2), some (.ref p3), some (.ref p4), v5, v6, some (.ref p7), some (.ref p8), some (.str (txt m)), some (oV v), none] H12 by
      cases e : valV kvs m with
      | none =>
        rw [if_neg (by simp)]
        exact m2
      | some w =>
        rw [if_pos (by simp)]
        obtain ⟨o, rfl, C2, _⟩ := F.ok m w e
        obtain rfl := C.one O hL C2
        refine ⟨oV v, e ▸ hg, scal_oV _ _, ?_⟩
        and_intros
        exact m2
    refine hc _ _ ?_
    clear hc c
    refine seq_any fun c hc => ?_
    suffices m2 : c [some (.ref sc), some (.int L), some (.ref p2), some (.ref p3), some (.ref p4), v5, v6, some (.ref p7), some (.ref p8), some (.str (txt m)), some (oV v), none] H12 by
      and_intros
      refine ⟨p2, _, rfl, .inl (sd.seq (SqL.of hM6)), rfl, flat_strs _, ?_⟩
      rw [inV_strs]
      and_intros
      by_cases hin : m ∈ ms
      · rw [if_neg (fun z => z hin)]
        exact m2
      · rw [if_pos hin]
        rcases id C with ⟨r, hr, e, _⟩ | ⟨_, n, w, s, S, rfl⟩
        · exact absurd (by rw [← eR, ← e]; exact List.mem_map.mpr ⟨r, hr, rfl⟩) hin
        · refine ⟨rfl, s ++ m, m, rfl, rfl, _, rfl, ?_⟩
          rw [if_neg (by simp)]
          exact m2
    refine hc _ _ ?_
    clear hc c
    simp only [sDPut, tCompSet,tRaise,tIsi,tSeq,tAsg,gName,tOp,tUn,tVar,tC,tTest,tB,tIf,tIfS,tAnd,tOr,tNot,tAndV,tOrV,tNotV,tRet,tRetN,tNext,tDrop,tCB,tCons,tNil,tBM,tBM0,tCall,tLst,tTup,tSl,tPart,tNoPart,tIsN,tNotN,tYes,tBreak,tCont,rI0,rI,rU,rEq,rNe,L2.start,compSt,List.map_cons,List.map_nil,List.length_cons,List.length_nil,List.replicate_succ,List.replicate_zero,List.cons_append,List.nil_append,List.append_nil,List.getElem?_cons_zero,List.getElem?_cons_succ,List.set_cons_zero,List.set_cons_succ,Option.some.injEq,Option.join_some,V.int.injEq,V.str.injEq,V.bl.injEq,V.ref.injEq,txt_inj,exists_eq_left',exists_eq_left,exists_and_left,and_true,true_and,decide_eq_true_eq,reduceCtorEq,decide_false,decide_true,Bool.not_false,Bool.not_true,if_true,if_false,Bool.false_eq_true,Nat.reduceAdd,Nat.reduceSub,Bool.not_eq_true',decide_eq_false_iff_not,not_true_eq_false,not_false_eq_true]
    refine ⟨_, DPut.k (k := Key.inr (txt m)) hf (by rw [List.length_map, sizeLine_eq]; omega), ?_⟩
    refine ⟨putK kvs m (oV v), _, _, sd.set, by rw [upd_same, putK_fK], F.put C gm.1 gm.2, by have := length_putK kvs m (oV v); omega, rfl⟩
  · rintro σ H10 ⟨kvs, v9, v10, sd, hf, F, hkl, rfl⟩
    rw [List.length_map] at hkl
    refine hc _ _ ?_
    clear hR0 R0 hc c
    refine seq_any fun c hc => ?_
    and_intros
    suffices main : ∀ (us : List (List Nat)) (H11 : Hp) (p11 : Addr), H11 p11 = none → us.Pairwise (· < ·) → us.length ≤ 64 → c [some (.ref sc), some (.int L), some (.ref p2), some (.ref p3), some (.ref p4), v5, v6, some (.ref p7), some (.ref p8), v9, v10, some (.ref p11)] (upd H11 p11 (.lst (us.map strV))) by
      refine comp_by fun R0 hR0 => ?_
      simp only [iList, tCompSet,tRaise,tIsi,tSeq,tAsg,gName,tOp,tUn,tVar,tC,tTest,tB,tIf,tIfS,tAnd,tOr,tNot,tAndV,tOrV,tNotV,tRet,tRetN,tNext,tDrop,tCB,tCons,tNil,tBM,tBM0,tCall,tLst,tTup,tSl,tPart,tNoPart,tIsN,tNotN,tYes,tBreak,tCont,rI0,rI,rU,rEq,rNe,L2.start,compSt,List.map_cons,List.map_nil,List.length_cons,List.length_nil,List.replicate_succ,List.replicate_zero,List.cons_append,List.nil_append,List.append_nil,List.getElem?_cons_zero,List.getElem?_cons_succ,List.set_cons_zero,List.set_cons_succ,Option.some.injEq,Option.join_some,V.int.injEq,V.str.injEq,V.bl.injEq,V.ref.injEq,txt_inj,exists_eq_left',exists_eq_left,exists_and_left,and_true,true_and,decide_eq_true_eq,reduceCtorEq,decide_false,decide_true,Bool.not_false,Bool.not_true,if_true,if_false,Bool.false_eq_true,Nat.reduceAdd,Nat.reduceSub,Bool.not_eq_true',decide_eq_false_iff_not,not_true_eq_false,not_false_eq_true]
      refine ⟨p7, kvs, rfl, hf, by omega, fun l zs hl' hpm hle => ?_⟩
      refine ⟨l, rfl, ⟨_, SqL.here⟩, ?_⟩
      rw [hR0]
      have zlt := lt_of_sorted hle (hpm.nodup_iff.mpr F.nd)
      have zl : zs.length ≤ 40 := by rw [hpm.length_eq, List.length_map]; omega
      have hZ : (upd H10 l (.lst (zs.map strV))) l = some (.lst (zs.map strV)) := upd_same
      have hf2 := (Same.up H10 hl' (o := .lst (zs.map strV))) _ _ hf
      generalize upd H10 l _ = H11 at hZ hf2 ⊢
      refine comp_lst (K := K) (xs := zs.map strV) (σ := [some (.ref sc), some (.int L), some (.ref p2), some (.ref p3), some (.ref p4), v5, v6, some (.ref p7), some (.ref p8), v9, v10, none]) (fs := [7]) (tt := tB (tNotN (tDGet (tVar 1) (tVar 0)))) (te := tDGet (tVar 1) (tVar 0)) (Q := fun x H1 => c [some (.ref sc), some (.int L), some (.ref p2), some (.ref p3), some (.ref p4), v5, v6, some (.ref p7), some (.ref p8), v9, v10, some x] H1) (RowInv L R H11 zs) ⟨rfl, [], rfl, List.Pairwise.nil, Nat.le_refl _, fun u h => (nomatch h)⟩ (fun i ys H' _ p => by obtain ⟨e, us, e2, _, e3, _⟩ := p; rw [e, e2, List.length_map]; exact ⟨SqL.of hZ, e3⟩) (by rw [List.length_map, sizeLine_eq]; omega) ?_ ?_
      · rintro i x ys H' hx ⟨rfl, us, rfl, upw, hul, hu⟩ W hW
        rw [List.getElem?_map] at hx
        obtain ⟨z, hz, rfl⟩ := Option.map_eq_some_iff.mp hx
        obtain ⟨w, hw⟩ := val_mem (kvs := kvs) (m := z) (hpm.mem_iff.mp (List.mem_of_getElem? hz))
        obtain ⟨o, rfl, C, M, _⟩ := F.ok z w hw
        have hg : DGet H' p7 (.str (txt z)) (some (oV o)) := by
          have := DGet.k (k := Key.inr (txt z)) hf2
          rw [valV_fK, hw] at this
          exact this
        have etk : zs.take (i + 1) = zs.take i ++ [z] := by rw [List.take_add_one, hz]; rfl
        simp only [tDGet, strV, tCompSet,tRaise,tIsi,tSeq,tAsg,gName,tOp,tUn,tVar,tC,tTest,tB,tIf,tIfS,tAnd,tOr,tNot,tAndV,tOrV,tNotV,tRet,tRetN,tNext,tDrop,tCB,tCons,tNil,tBM,tBM0,tCall,tLst,tTup,tSl,tPart,tNoPart,tIsN,tNotN,tYes,tBreak,tCont,rI0,rI,rU,rEq,rNe,L2.start,compSt,List.map_cons,List.map_nil,List.length_cons,List.length_nil,List.replicate_succ,List.replicate_zero,List.cons_append,List.nil_append,List.append_nil,List.getElem?_cons_zero,List.getElem?_cons_succ,List.set_cons_zero,List.set_cons_succ,Option.some.injEq,Option.join_some,V.int.injEq,V.str.injEq,V.bl.injEq,V.ref.injEq,txt_inj,exists_eq_left',exists_eq_left,exists_and_left,and_true,true_and,decide_eq_true_eq,reduceCtorEq,decide_false,decide_true,Bool.not_false,Bool.not_true,if_true,if_false,Bool.false_eq_true,Nat.reduceAdd,Nat.reduceSub,Bool.not_eq_true',decide_eq_false_iff_not,not_true_eq_false,not_false_eq_true]
        refine ⟨_, hg, ?_⟩
        cases o with
        | none =>
          simp only [oV_none, oV_some, tCompSet,tRaise,tIsi,tSeq,tAsg,gName,tOp,tUn,tVar,tC,tTest,tB,tIf,tIfS,tAnd,tOr,tNot,tAndV,tOrV,tNotV,tRet,tRetN,tNext,tDrop,tCB,tCons,tNil,tBM,tBM0,tCall,tLst,tTup,tSl,tPart,tNoPart,tIsN,tNotN,tYes,tBreak,tCont,rI0,rI,rU,rEq,rNe,L2.start,compSt,List.map_cons,List.map_nil,List.length_cons,List.length_nil,List.replicate_succ,List.replicate_zero,List.cons_append,List.nil_append,List.append_nil,List.getElem?_cons_zero,List.getElem?_cons_succ,List.set_cons_zero,List.set_cons_succ,Option.some.injEq,Option.join_some,V.int.injEq,V.str.injEq,V.bl.injEq,V.ref.injEq,txt_inj,exists_eq_left',exists_eq_left,exists_and_left,and_true,true_and,decide_eq_true_eq,reduceCtorEq,decide_false,decide_true,Bool.not_false,Bool.not_true,if_true,if_false,Bool.false_eq_true,Nat.reduceAdd,Nat.reduceSub,Bool.not_eq_true',decide_eq_false_iff_not,not_true_eq_false,not_false_eq_true]
          exact hW _ _ ⟨rfl, us, rfl, upw, by omega, fun u h => by obtain ⟨z', h1, h2⟩ := hu u h; exact ⟨z', by rw [etk]; exact List.mem_append_left _ h1, h2⟩⟩
        | some u' =>
          simp only [oV_none, oV_some, tCompSet,tRaise,tIsi,tSeq,tAsg,gName,tOp,tUn,tVar,tC,tTest,tB,tIf,tIfS,tAnd,tOr,tNot,tAndV,tOrV,tNotV,tRet,tRetN,tNext,tDrop,tCB,tCons,tNil,tBM,tBM0,tCall,tLst,tTup,tSl,tPart,tNoPart,tIsN,tNotN,tYes,tBreak,tCont,rI0,rI,rU,rEq,rNe,L2.start,compSt,List.map_cons,List.map_nil,List.length_cons,List.length_nil,List.replicate_succ,List.replicate_zero,List.cons_append,List.nil_append,List.append_nil,List.getElem?_cons_zero,List.getElem?_cons_succ,List.set_cons_zero,List.set_cons_succ,Option.some.injEq,Option.join_some,V.int.injEq,V.str.injEq,V.bl.injEq,V.ref.injEq,txt_inj,exists_eq_left',exists_eq_left,exists_and_left,and_true,true_and,decide_eq_true_eq,reduceCtorEq,decide_false,decide_true,Bool.not_false,Bool.not_true,if_true,if_false,Bool.false_eq_true,Nat.reduceAdd,Nat.reduceSub,Bool.not_eq_true',decide_eq_false_iff_not,not_true_eq_false,not_false_eq_true]
          refine ⟨_, hg, hW _ _ ⟨rfl, us ++ [u'], by rw [List.map_append]; rfl, ?_, by rw [List.length_append]; simp; omega, fun u h => ?_⟩⟩
          · rw [List.pairwise_append]
            refine ⟨upw, List.pairwise_singleton _ _, fun u h u2 h2 => ?_⟩
            rw [List.mem_singleton.mp h2]
            obtain ⟨z', h1, h3⟩ := hu u h
            refine Car.rise O hL ?_ h3 C
            obtain ⟨j, hj, rfl⟩ := List.mem_iff_getElem.mp h1
            rw [List.length_take] at hj
            obtain ⟨a1, a2⟩ := List.getElem?_eq_some_iff.mp hz
            have := List.pairwise_iff_getElem.mp zlt j i (by omega) a1 (by omega)
            rw [a2] at this
            rw [List.getElem_take]
            exact this
          · rcases List.mem_append.mp h with h | h
            · obtain ⟨z', h1, h2⟩ := hu u h
              exact ⟨z', by rw [etk]; exact List.mem_append_left _ h1, h2⟩
            · rw [List.mem_singleton.mp h]
              exact ⟨z, by rw [etk]; exact List.mem_append_right _ (List.mem_singleton.mpr rfl), C⟩
      · rintro ys H' ⟨rfl, us, rfl, upw, hul, _⟩ p11 hp11
        rw [List.length_map] at hul
        exact main us H' p11 hp11 upw (by omega)
    intro us H11 p11 hp11 upw hul
    refine hc _ _ ?_
    clear hc c
    have hU : (upd H11 p11 (.lst (us.map strV))) p11 = some (.lst (us.map strV)) := upd_same
    generalize upd H11 p11 _ = H12 at hU ⊢
    refine seq_any fun c hc => ?_
    refine for_r2 (l := 1) (j := us.length) (fun Q h => by
      and_intros
      refine lenL_go (SqL.of hU) ?_
      rw [List.length_map]
      exact h) (by omega) (by omega) (by omega) (by omega) (fun i σ H' => H' = H12 ∧ ∃ v5, σ = [some (.ref sc), some (.int L), some (.ref p2), some (.ref p3), some (.ref p4), v5, v6, some (.ref p7), some (.ref p8), v9, v10, some (.ref p11)]) ⟨rfl, _, rfl⟩ ?_ ?_
    · rintro i σ H' hi ⟨rfl, v5, rfl⟩
      and_intros
      have h1 : us[i]? = some us[i] := List.getElem?_eq_getElem (by omega)
      have h2 : us[i + 1]? = some us[i + 1] := List.getElem?_eq_getElem (by omega)
      refine ixL_go (v := strV us[i]) (SqL.of hU) (by omega) (by rw [show ((1 : Int) + i - 1).toNat = i by omega, List.getElem?_map, h1]; rfl) ?_
      refine ixL_go (v := strV us[i + 1]) (SqL.of hU) (by omega) (by rw [show ((1 : Int) + i).toNat = i + 1 by omega, List.getElem?_map, h2]; rfl) ?_
      refine ⟨_, _, rfl, rfl, _, rfl, ?_⟩
      have lt := List.pairwise_iff_getElem.mp upw i (i + 1) (by omega) (by omega) (by omega)
      rw [decide_eq_true lt]
      exact ⟨rfl, _, rfl⟩
    · rintro σ H' ⟨rfl, v5, rfl⟩
      refine hc _ _ ?_
      and_intros
      exact q _
end K42
set_option Elab.async false
set_option linter.all false
set_option maxRecDepth 100000
set_option maxHeartbeats 4000000
def PySem.W.Fast.tw6532621604630406495 : Nat := 0
def PySem.W.Fast.tw1672769454265245272 : Nat := 0
def PySem.W.Fast.tw8147975907954940282 : Nat := 0
def PySem.W.Fast.tw3639763149665343573 : Nat := 0
def PySem.W.Fast.tw8423464469405312133 : Nat := 0
namespace K42
open PySem PySem.Spec PyProof.Rows L2 MM
section
variable {P : Program} {w : World} {K : PySem.W.Frag} {mg : Str → Option Value} {base : Heap} {a : Ad}
theorem ok_p23 (T : Tx K mg a) : FnOk P w K mg base CX0 1 a.f_p23 a.fd_p23 ["letters", "long"] spPower :=
  T.F_p23.okQ sc_p23 (fun _ _ _ _ ⟨_, _, e, _⟩ => by rw [e]; rfl) (fun _ _ _ _ _ _ hr => pr_p23 T  hr) fun _ _ _ _ h => read_power rfl h
theorem ok_p13 (T : Tx K mg a) : FnOk P w K mg base CX0 1 a.f_p13 a.fd_p13 ["mark", "place"] spFig :=
  T.F_p13.okQ sc_p13 (fun _ _ _ _ ⟨_, _, e, _⟩ => by rw [e]; rfl) (fun _ _ _ _ _ _ hr => pr_p13 T  hr) fun _ _ _ _ h => read_fig rfl h
theorem ok_p26 (T : Tx K mg a) : FnOk P w K mg base CX0 2 a.f_p26 a.fd_p26 ["letters", "mark", "long"] spWhole :=
  T.F_p26.okQ sc_p26 (fun _ _ _ _ ⟨_, _, _, e, _⟩ => by rw [e]; rfl) (fun _ _ _ _ _ _ hr => pr_p26 T (ok_p13 T) hr) fun _ _ _ _ h => read_whole rfl h
theorem ok_p18 (T : Tx K mg a) : FnOk P w K mg base CX0 1 a.f_p18 a.fd_p18 ["letters", "number", "long"] spMarkOf :=
  T.F_p18.okQ sc_p18 (fun _ _ _ _ ⟨_, _, _, e, _⟩ => by rw [e]; rfl) (fun _ _ _ _ _ _ hr => pr_p18 T  hr) fun _ _ _ _ h => read_markOf rfl h
theorem ok_p12 (T : Tx K mg a) : FnOk P w K mg base CX0 1 a.f_p12 a.fd_p12 ["letters", "hands", "hand"] spEnds :=
  T.F_p12.okQ sc_p12 (fun _ _ _ _ ⟨_, _, _, e, _⟩ => by rw [e]; rfl) (fun _ _ _ _ _ _ hr => pr_p12 T  hr) fun _ _ _ _ h => read_ends rfl h
theorem ok_p8 (T : Tx K mg a) : FnOk P w K mg base (CX1 P w) 1 a.f_p8 a.fd_p8 ["low", "high"] (spAskRoom a.c_NoRoom) :=
  T.F_p8.okX sc_p8 (fun _ _ _ _ ⟨_, _, e, _⟩ => by rw [e]; rfl) (fun _ _ _ _ _ _ hr => pr_p8 T  hr) fun _ _ _ _ h => read_askRoom rfl h
theorem ok_p15 (T : Tx K mg a) : FnOk P w K mg base CX0 3 a.f_p15 a.fd_p15 ["letters", "high", "long"] spHigh :=
  T.F_p15.okQ sc_p15 (fun _ _ _ _ ⟨_, _, _, e, _⟩ => by rw [e]; rfl) (fun _ _ _ _ _ _ hr => pr_p15 T (ok_p23 T) (ok_p26 T) hr) fun _ _ _ _ h => read_high rfl h
theorem ok_p21 (T : Tx K mg a) : FnOk P w K mg base CX0 1 a.f_p21 a.fd_p21 ["letters", "ends", "number"] spBelow :=
  T.F_p21.okQ sc_p21 (fun _ _ _ _ ⟨_, _, _, e, _⟩ => by rw [e]; rfl) (fun _ _ _ _ _ _ hr => pr_p21 T  hr) fun _ _ _ _ h => read_below rfl h
theorem ok_p22 (T : Tx K mg a) : FnOk P w K mg base CX0 2 a.f_p22 a.fd_p22 ["letters", "ends", "low_whole"] spUpLow :=
  T.F_p22.okQ sc_p22 (fun _ _ _ _ ⟨_, _, _, e, _⟩ => by rw [e]; rfl) (fun _ _ _ _ _ _ hr => pr_p22 T (ok_p21 T) hr) fun _ _ _ _ h => read_upLow rfl h
theorem ok_p20 (T : Tx K mg a) : FnOk P w K mg base CX0 2 a.f_p20 a.fd_p20 ["letters", "ends", "high", "high_whole", "long", "beginnings"] spAhead :=
  T.F_p20.okQ sc_p20 (fun _ _ _ _ ⟨_, _, _, _, _, _, e, _⟩ => by rw [e]; rfl) (fun _ _ _ _ _ _ hr => pr_p20 T (ok_p21 T) hr) fun _ _ _ _ h => read_ahead rfl h
theorem ok_p11 (T : Tx K mg a) : FnOk P w K mg base CX0 4 a.f_p11 a.fd_p11 ["letters", "ends", "low", "high", "long", "beginnings"] spCounted :=
  T.F_p11.okQ sc_p11 (fun _ _ _ _ ⟨_, _, _, _, _, _, e, _⟩ => by rw [e]; rfl) (fun _ _ _ _ _ _ hr => pr_p11 T (ok_p26 T) (ok_p15 T) (ok_p20 T) (ok_p22 T) hr) fun _ _ _ _ h => read_counted rfl h
theorem ok_p19 (T : Tx K mg a) : FnOk P w K mg base (CX1 P w) 3 a.f_p19 a.fd_p19 ["letters", "hands", "hand", "low", "high", "long", "number"] (spNth a.c_NoRoom) :=
  T.F_p19.okX sc_p19 (fun _ _ _ _ ⟨_, _, _, _, _, _, _, e, _⟩ => by rw [e]; rfl) (fun _ _ _ _ _ _ hr => pr_p19 T (ok_p8 T) (ok_p12 T) (ok_p26 T) (ok_p22 T) (ok_p18 T) hr) fun _ _ _ _ h => read_nth rfl h
theorem ok_p17 (T : Tx K mg a) : FnOk P w K mg base CX0 4 a.f_p17 a.fd_p17 ["letters", "ends", "low", "high", "many", "beginnings"] spLeastC :=
  T.F_p17.okQ sc_p17 (fun _ _ _ _ ⟨_, _, _, _, _, _, e, _⟩ => by rw [e]; rfl) (fun _ _ _ _ _ _ hr => pr_p17 T (ok_p15 T) (ok_p13 T) (ok_p20 T) (ok_p22 T) hr) fun _ _ _ _ h => read_leastC rfl h
theorem ok_p25 (T : Tx K mg a) : FnOk P w K mg base (CX1 P w) 5 a.f_p25 a.fd_p25 ["letters", "low", "high"] (spStem a.c_NoRoom) :=
  T.F_p25.okX sc_p25 (fun _ _ _ _ ⟨_, _, _, e, _⟩ => by rw [e]; rfl) (fun _ _ _ _ _ _ hr => pr_p25 T (ok_p8 T) (ok_p12 T) (ok_p17 T) (ok_p11 T) (ok_p19 T) hr) fun _ _ _ _ h => read_stem rfl h
theorem ok_p24 (T : Tx K mg a) : FnOk P w K mg base CX0 1 a.f_p24 a.fd_p24 ["rows", "mark"] (spAheadR K) :=
  T.F_p24.okQ sc_p24 (fun _ _ _ _ ⟨_, _, _, e, _⟩ => by rw [e]; rfl) (fun _ _ _ _ _ _ hr => pr_p24 T  hr) fun _ _ _ _ h => read_aheadR rfl h
theorem ok_p14 (T : Tx K mg a) : FnOk P w K mg base CX0 1 a.f_p14 a.fd_p14 ["rows"] (spFirstN K) :=
  T.F_p14.okQ sc_p14 (fun _ _ _ _ ⟨_, _, e, _⟩ => by rw [e]; rfl) (fun _ _ _ _ _ _ hr => pr_p14 T  hr) fun _ _ _ _ h => read_firstN rfl h
theorem ok_p10 (T : Tx K mg a) : FnOk P w K mg base CX0 6 a.f_p10 a.fd_p10 ["letters", "rows", "mark", "stems"] (spCarK K) :=
  T.F_p10.okQ sc_p10 (fun _ _ _ _ ⟨_, _, _, _, _, _, e, _⟩ => by rw [e]; rfl) (fun _ _ _ _ _ _ hr => pr_p10 T (ok_p24 T) (ok_p14 T) (ok_p25 T) hr) fun _ _ _ _ h => read_carK rfl h
theorem ok_p9 (T : Tx K mg a) : FnOk P w K mg base CX0 7 a.f_p9 a.fd_p9 ["letters", "rows", "mark"] (spCar K) :=
  T.F_p9.okQ sc_p9 (fun _ _ _ _ ⟨_, _, _, _, e, _⟩ => by rw [e]; rfl) (fun _ _ _ _ _ _ hr => pr_p9 T (ok_p10 T) hr) fun _ _ _ _ h => read_car rfl h
theorem ok_draw (T : Tx K mg a) : FnOk P w K mg base CX0 1 a.f_draw a.fd_draw ["_law_script", "_law_k", "_law_many"] (spDraw K) :=
  T.F_draw.okQ sc_draw (fun _ _ _ _ ⟨_, _, _, _, e, _⟩ => by rw [e]; rfl) (fun _ _ _ _ _ _ hr => pr_draw T  hr) fun _ _ _ _ h => read_draw2 rfl h
theorem ok_letters (T : Tx K mg a) : FnOk P w K mg base CX0 2 a.f_letters a.fd_letters ["_law_script"] (spLetters K) :=
  T.F_letters.okQ sc_letters (fun _ _ _ _ ⟨_, _, e, _⟩ => by rw [e]; rfl) (fun _ _ _ _ _ _ hr => pr_letters T (ok_draw T) hr) fun _ _ _ _ h => read_letters rfl h
theorem ok_text (T : Tx K mg a) : FnOk P w K mg base CX0 1 a.f_text a.fd_text ["_law_letters_here", "_law_number", "_law_long"] spText :=
  T.F_text.okQ sc_text (fun _ _ _ _ ⟨_, _, _, e, _⟩ => by rw [e]; rfl) (fun _ _ _ _ _ _ hr => pr_text T  hr) fun _ _ _ _ h => read_text rfl h
theorem ok_mark (T : Tx K mg a) : FnOk P w K mg base CX0 2 a.f_mark a.fd_mark ["_law_script", "_law_base", "_law_letters_here"] (spMark41 K) :=
  T.F_mark.okQ sc_mark (fun _ _ _ _ ⟨_, _, _, _, e, _⟩ => by rw [e]; rfl) (fun _ _ _ _ _ _ hr => pr_mark T (ok_draw T) hr) fun _ _ _ _ h => read_mark41 rfl h
theorem ok_marks (T : Tx K mg a) : FnOk P w K mg base CX0 3 a.f_marks a.fd_marks ["_law_script", "_law_base", "_law_letters_here", "_law_many"] (spMarks K) :=
  T.F_marks.okQ sc_marks (fun _ _ _ _ ⟨_, _, _, _, _, e, _⟩ => by rw [e]; rfl) (fun _ _ _ _ _ _ hr => pr_marks T (ok_mark T) (ok_draw T) hr) fun _ _ _ _ h => read_marks rfl h
theorem ok_renewed (T : Tx K mg a) : FnOk P w K mg base CX0 2 a.f_renewed a.fd_renewed ["_law_letters_here", "_law_many"] spLRenewed :=
  T.F_renewed.okQ sc_renewed (fun _ _ _ _ ⟨_, _, e, _⟩ => by rw [e]; rfl) (fun _ _ _ _ _ _ hr => pr_renewed T (ok_text T) hr) fun _ _ _ _ h => read_lrenewed rfl h
theorem ok_rows (T : Tx K mg a) : FnOk P w K mg base CX0 3 a.f_rows a.fd_rows ["_law_script", "_law_base", "_law_letters_here", "_law_marks_here"] (spLRows K) :=
  T.F_rows.okQ sc_rows (fun _ _ _ _ ⟨_, _, _, _, _, e, _⟩ => by rw [e]; rfl) (fun _ _ _ _ _ _ hr => pr_rows T (ok_draw T) (ok_renewed T) hr) fun _ _ _ _ h => read_lrows rfl h
theorem ok_due (T : Tx K mg a) : FnOk P w K mg base CX0 6 a.f_due a.fd_due ["_law_letters_here", "_law_rows_here", "_law_mark_here"] (spDue K) :=
  T.F_due.okQ sc_due (fun _ _ _ _ ⟨_, _, _, _, e, _⟩ => by rw [e]; rfl) (fun _ _ _ _ _ _ hr => pr_due T (ok_p25 T) hr) fun _ _ _ _ h => read_due rfl h
theorem ok_law (T : Tx K mg a) : FnOk P w K mg base CX0 8 a.f_law a.fd_law ["_law_script"] (spLaw K) :=
  T.F_law.okQ sc_law (fun _ _ _ _ ⟨_, _, e, _⟩ => by rw [e]; rfl) (fun _ _ _ _ _ _ hr => pr_law T (ok_letters T) (ok_draw T) (ok_marks T) (ok_rows T) (ok_p9 T) (ok_due T) hr) fun _ _ _ _ h => read_law rfl h
end
theorem tx_mk {K : PySem.W.Frag} {h : Heap} {mg : Str → Option Value} (X : K.In h) (G : h.Ns mainGlobals mg)
    {f_p23 : Addr} {od_p23 an_p23 : Option Addr} {sl_p23 : Array (Option Value)} {oc_p23 kV_p23 dc_p23 pm_p23 cd_p23 ct_p23 : Value}
    (a_p23 : PySem.W.nsIn K mainGlobals "power" = some (some (.ref f_p23))) (l_p23 : K.lookup f_p23 = some ⟨oc_p23, od_p23, .func (PySem.W.fnOf "power" "power" (defArgs s_p23) (defBody s_p23) (defScope s_p23) .none kV_p23 dc_p23 pm_p23 an_p23 cd_p23 ct_p23), sl_p23⟩) (c_p23 : PySem.W.codeIn K cd_p23 "power" = true) (k_p23 : PySem.W.keepIn K (.ref f_p23) = true)
    {f_p13 : Addr} {od_p13 an_p13 : Option Addr} {sl_p13 : Array (Option Value)} {oc_p13 kV_p13 dc_p13 pm_p13 cd_p13 ct_p13 : Value}
    (a_p13 : PySem.W.nsIn K mainGlobals "figure_at" = some (some (.ref f_p13))) (l_p13 : K.lookup f_p13 = some ⟨oc_p13, od_p13, .func (PySem.W.fnOf "figure_at" "figure_at" (defArgs s_p13) (defBody s_p13) (defScope s_p13) .none kV_p13 dc_p13 pm_p13 an_p13 cd_p13 ct_p13), sl_p13⟩) (c_p13 : PySem.W.codeIn K cd_p13 "figure_at" = true) (k_p13 : PySem.W.keepIn K (.ref f_p13) = true)
    {f_p26 : Addr} {od_p26 an_p26 : Option Addr} {sl_p26 : Array (Option Value)} {oc_p26 kV_p26 dc_p26 pm_p26 cd_p26 ct_p26 : Value}
    (a_p26 : PySem.W.nsIn K mainGlobals "whole_of" = some (some (.ref f_p26))) (l_p26 : K.lookup f_p26 = some ⟨oc_p26, od_p26, .func (PySem.W.fnOf "whole_of" "whole_of" (defArgs s_p26) (defBody s_p26) (defScope s_p26) .none kV_p26 dc_p26 pm_p26 an_p26 cd_p26 ct_p26), sl_p26⟩) (c_p26 : PySem.W.codeIn K cd_p26 "whole_of" = true) (k_p26 : PySem.W.keepIn K (.ref f_p26) = true)
    {f_p18 : Addr} {od_p18 an_p18 : Option Addr} {sl_p18 : Array (Option Value)} {oc_p18 kV_p18 dc_p18 pm_p18 cd_p18 ct_p18 : Value}
    (a_p18 : PySem.W.nsIn K mainGlobals "mark_of" = some (some (.ref f_p18))) (l_p18 : K.lookup f_p18 = some ⟨oc_p18, od_p18, .func (PySem.W.fnOf "mark_of" "mark_of" (defArgs s_p18) (defBody s_p18) (defScope s_p18) .none kV_p18 dc_p18 pm_p18 an_p18 cd_p18 ct_p18), sl_p18⟩) (c_p18 : PySem.W.codeIn K cd_p18 "mark_of" = true) (k_p18 : PySem.W.keepIn K (.ref f_p18) = true)
    {f_p12 : Addr} {od_p12 an_p12 : Option Addr} {sl_p12 : Array (Option Value)} {oc_p12 kV_p12 dc_p12 pm_p12 cd_p12 ct_p12 : Value}
    (a_p12 : PySem.W.nsIn K mainGlobals "ends_of" = some (some (.ref f_p12))) (l_p12 : K.lookup f_p12 = some ⟨oc_p12, od_p12, .func (PySem.W.fnOf "ends_of" "ends_of" (defArgs s_p12) (defBody s_p12) (defScope s_p12) .none kV_p12 dc_p12 pm_p12 an_p12 cd_p12 ct_p12), sl_p12⟩) (c_p12 : PySem.W.codeIn K cd_p12 "ends_of" = true) (k_p12 : PySem.W.keepIn K (.ref f_p12) = true)
    {f_p8 : Addr} {od_p8 an_p8 : Option Addr} {sl_p8 : Array (Option Value)} {oc_p8 kV_p8 dc_p8 pm_p8 cd_p8 ct_p8 : Value}
    (a_p8 : PySem.W.nsIn K mainGlobals "ask_room" = some (some (.ref f_p8))) (l_p8 : K.lookup f_p8 = some ⟨oc_p8, od_p8, .func (PySem.W.fnOf "ask_room" "ask_room" (defArgs s_p8) (defBody s_p8) (defScope s_p8) .none kV_p8 dc_p8 pm_p8 an_p8 cd_p8 ct_p8), sl_p8⟩) (c_p8 : PySem.W.codeIn K cd_p8 "ask_room" = true) (k_p8 : PySem.W.keepIn K (.ref f_p8) = true)
    {f_p15 : Addr} {od_p15 an_p15 : Option Addr} {sl_p15 : Array (Option Value)} {oc_p15 kV_p15 dc_p15 pm_p15 cd_p15 ct_p15 : Value}
    (a_p15 : PySem.W.nsIn K mainGlobals "high_whole_of" = some (some (.ref f_p15))) (l_p15 : K.lookup f_p15 = some ⟨oc_p15, od_p15, .func (PySem.W.fnOf "high_whole_of" "high_whole_of" (defArgs s_p15) (defBody s_p15) (defScope s_p15) .none kV_p15 dc_p15 pm_p15 an_p15 cd_p15 ct_p15), sl_p15⟩) (c_p15 : PySem.W.codeIn K cd_p15 "high_whole_of" = true) (k_p15 : PySem.W.keepIn K (.ref f_p15) = true)
    {f_p21 : Addr} {od_p21 an_p21 : Option Addr} {sl_p21 : Array (Option Value)} {oc_p21 kV_p21 dc_p21 pm_p21 cd_p21 ct_p21 : Value}
    (a_p21 : PySem.W.nsIn K mainGlobals "owned_below" = some (some (.ref f_p21))) (l_p21 : K.lookup f_p21 = some ⟨oc_p21, od_p21, .func (PySem.W.fnOf "owned_below" "owned_below" (defArgs s_p21) (defBody s_p21) (defScope s_p21) .none kV_p21 dc_p21 pm_p21 an_p21 cd_p21 ct_p21), sl_p21⟩) (c_p21 : PySem.W.codeIn K cd_p21 "owned_below" = true) (k_p21 : PySem.W.keepIn K (.ref f_p21) = true)
    {f_p22 : Addr} {od_p22 an_p22 : Option Addr} {sl_p22 : Array (Option Value)} {oc_p22 kV_p22 dc_p22 pm_p22 cd_p22 ct_p22 : Value}
    (a_p22 : PySem.W.nsIn K mainGlobals "owned_up_to_low" = some (some (.ref f_p22))) (l_p22 : K.lookup f_p22 = some ⟨oc_p22, od_p22, .func (PySem.W.fnOf "owned_up_to_low" "owned_up_to_low" (defArgs s_p22) (defBody s_p22) (defScope s_p22) .none kV_p22 dc_p22 pm_p22 an_p22 cd_p22 ct_p22), sl_p22⟩) (c_p22 : PySem.W.codeIn K cd_p22 "owned_up_to_low" = true) (k_p22 : PySem.W.keepIn K (.ref f_p22) = true)
    {f_p20 : Addr} {od_p20 an_p20 : Option Addr} {sl_p20 : Array (Option Value)} {oc_p20 kV_p20 dc_p20 pm_p20 cd_p20 ct_p20 : Value}
    (a_p20 : PySem.W.nsIn K mainGlobals "owned_ahead_of_high" = some (some (.ref f_p20))) (l_p20 : K.lookup f_p20 = some ⟨oc_p20, od_p20, .func (PySem.W.fnOf "owned_ahead_of_high" "owned_ahead_of_high" (defArgs s_p20) (defBody s_p20) (defScope s_p20) .none kV_p20 dc_p20 pm_p20 an_p20 cd_p20 ct_p20), sl_p20⟩) (c_p20 : PySem.W.codeIn K cd_p20 "owned_ahead_of_high" = true) (k_p20 : PySem.W.keepIn K (.ref f_p20) = true)
    {f_p11 : Addr} {od_p11 an_p11 : Option Addr} {sl_p11 : Array (Option Value)} {oc_p11 kV_p11 dc_p11 pm_p11 cd_p11 ct_p11 : Value}
    (a_p11 : PySem.W.nsIn K mainGlobals "counted_at" = some (some (.ref f_p11))) (l_p11 : K.lookup f_p11 = some ⟨oc_p11, od_p11, .func (PySem.W.fnOf "counted_at" "counted_at" (defArgs s_p11) (defBody s_p11) (defScope s_p11) .none kV_p11 dc_p11 pm_p11 an_p11 cd_p11 ct_p11), sl_p11⟩) (c_p11 : PySem.W.codeIn K cd_p11 "counted_at" = true) (k_p11 : PySem.W.keepIn K (.ref f_p11) = true)
    {f_p19 : Addr} {od_p19 an_p19 : Option Addr} {sl_p19 : Array (Option Value)} {oc_p19 kV_p19 dc_p19 pm_p19 cd_p19 ct_p19 : Value}
    (a_p19 : PySem.W.nsIn K mainGlobals "nth_mark" = some (some (.ref f_p19))) (l_p19 : K.lookup f_p19 = some ⟨oc_p19, od_p19, .func (PySem.W.fnOf "nth_mark" "nth_mark" (defArgs s_p19) (defBody s_p19) (defScope s_p19) .none kV_p19 dc_p19 pm_p19 an_p19 cd_p19 ct_p19), sl_p19⟩) (c_p19 : PySem.W.codeIn K cd_p19 "nth_mark" = true) (k_p19 : PySem.W.keepIn K (.ref f_p19) = true)
    {f_p17 : Addr} {od_p17 an_p17 : Option Addr} {sl_p17 : Array (Option Value)} {oc_p17 kV_p17 dc_p17 pm_p17 cd_p17 ct_p17 : Value}
    (a_p17 : PySem.W.nsIn K mainGlobals "least_counted" = some (some (.ref f_p17))) (l_p17 : K.lookup f_p17 = some ⟨oc_p17, od_p17, .func (PySem.W.fnOf "least_counted" "least_counted" (defArgs s_p17) (defBody s_p17) (defScope s_p17) .none kV_p17 dc_p17 pm_p17 an_p17 cd_p17 ct_p17), sl_p17⟩) (c_p17 : PySem.W.codeIn K cd_p17 "least_counted" = true) (k_p17 : PySem.W.keepIn K (.ref f_p17) = true)
    {f_p25 : Addr} {od_p25 an_p25 : Option Addr} {sl_p25 : Array (Option Value)} {oc_p25 kV_p25 dc_p25 pm_p25 cd_p25 ct_p25 : Value}
    (a_p25 : PySem.W.nsIn K mainGlobals "stem_between" = some (some (.ref f_p25))) (l_p25 : K.lookup f_p25 = some ⟨oc_p25, od_p25, .func (PySem.W.fnOf "stem_between" "stem_between" (defArgs s_p25) (defBody s_p25) (defScope s_p25) .none kV_p25 dc_p25 pm_p25 an_p25 cd_p25 ct_p25), sl_p25⟩) (c_p25 : PySem.W.codeIn K cd_p25 "stem_between" = true) (k_p25 : PySem.W.keepIn K (.ref f_p25) = true)
    {f_p24 : Addr} {od_p24 an_p24 : Option Addr} {sl_p24 : Array (Option Value)} {oc_p24 kV_p24 dc_p24 pm_p24 cd_p24 ct_p24 : Value}
    (a_p24 : PySem.W.nsIn K mainGlobals "rows_ahead" = some (some (.ref f_p24))) (l_p24 : K.lookup f_p24 = some ⟨oc_p24, od_p24, .func (PySem.W.fnOf "rows_ahead" "rows_ahead" (defArgs s_p24) (defBody s_p24) (defScope s_p24) .none kV_p24 dc_p24 pm_p24 an_p24 cd_p24 ct_p24), sl_p24⟩) (c_p24 : PySem.W.codeIn K cd_p24 "rows_ahead" = true) (k_p24 : PySem.W.keepIn K (.ref f_p24) = true)
    {f_p14 : Addr} {od_p14 an_p14 : Option Addr} {sl_p14 : Array (Option Value)} {oc_p14 kV_p14 dc_p14 pm_p14 cd_p14 ct_p14 : Value}
    (a_p14 : PySem.W.nsIn K mainGlobals "first_new" = some (some (.ref f_p14))) (l_p14 : K.lookup f_p14 = some ⟨oc_p14, od_p14, .func (PySem.W.fnOf "first_new" "first_new" (defArgs s_p14) (defBody s_p14) (defScope s_p14) .none kV_p14 dc_p14 pm_p14 an_p14 cd_p14 ct_p14), sl_p14⟩) (c_p14 : PySem.W.codeIn K cd_p14 "first_new" = true) (k_p14 : PySem.W.keepIn K (.ref f_p14) = true)
    {f_p10 : Addr} {od_p10 an_p10 : Option Addr} {sl_p10 : Array (Option Value)} {oc_p10 kV_p10 dc_p10 pm_p10 cd_p10 ct_p10 : Value}
    (a_p10 : PySem.W.nsIn K mainGlobals "carried_knowing" = some (some (.ref f_p10))) (l_p10 : K.lookup f_p10 = some ⟨oc_p10, od_p10, .func (PySem.W.fnOf "carried_knowing" "carried_knowing" (defArgs s_p10) (defBody s_p10) (defScope s_p10) .none kV_p10 dc_p10 pm_p10 an_p10 cd_p10 ct_p10), sl_p10⟩) (c_p10 : PySem.W.codeIn K cd_p10 "carried_knowing" = true) (k_p10 : PySem.W.keepIn K (.ref f_p10) = true)
    {f_p9 : Addr} {od_p9 an_p9 : Option Addr} {sl_p9 : Array (Option Value)} {oc_p9 kV_p9 dc_p9 pm_p9 cd_p9 ct_p9 : Value}
    (a_p9 : PySem.W.nsIn K mainGlobals "carried" = some (some (.ref f_p9))) (l_p9 : K.lookup f_p9 = some ⟨oc_p9, od_p9, .func (PySem.W.fnOf "carried" "carried" (defArgs s_p9) (defBody s_p9) (defScope s_p9) .none kV_p9 dc_p9 pm_p9 an_p9 cd_p9 ct_p9), sl_p9⟩) (c_p9 : PySem.W.codeIn K cd_p9 "carried" = true) (k_p9 : PySem.W.keepIn K (.ref f_p9) = true)
    {f_draw : Addr} {od_draw an_draw : Option Addr} {sl_draw : Array (Option Value)} {oc_draw kV_draw dc_draw pm_draw cd_draw ct_draw : Value}
    (a_draw : PySem.W.nsIn K mainGlobals "_law_draw" = some (some (.ref f_draw))) (l_draw : K.lookup f_draw = some ⟨oc_draw, od_draw, .func (PySem.W.fnOf "_law_draw" "_law_draw" (defArgs s_draw) (defBody s_draw) (defScope s_draw) .none kV_draw dc_draw pm_draw an_draw cd_draw ct_draw), sl_draw⟩) (c_draw : PySem.W.codeIn K cd_draw "_law_draw" = true) (k_draw : PySem.W.keepIn K (.ref f_draw) = true)
    {f_letters : Addr} {od_letters an_letters : Option Addr} {sl_letters : Array (Option Value)} {oc_letters kV_letters dc_letters pm_letters cd_letters ct_letters : Value}
    (a_letters : PySem.W.nsIn K mainGlobals "_law_letters" = some (some (.ref f_letters))) (l_letters : K.lookup f_letters = some ⟨oc_letters, od_letters, .func (PySem.W.fnOf "_law_letters" "_law_letters" (defArgs s_letters) (defBody s_letters) (defScope s_letters) .none kV_letters dc_letters pm_letters an_letters cd_letters ct_letters), sl_letters⟩) (c_letters : PySem.W.codeIn K cd_letters "_law_letters" = true) (k_letters : PySem.W.keepIn K (.ref f_letters) = true)
    {f_text : Addr} {od_text an_text : Option Addr} {sl_text : Array (Option Value)} {oc_text kV_text dc_text pm_text cd_text ct_text : Value}
    (a_text : PySem.W.nsIn K mainGlobals "_law_text" = some (some (.ref f_text))) (l_text : K.lookup f_text = some ⟨oc_text, od_text, .func (PySem.W.fnOf "_law_text" "_law_text" (defArgs s_text) (defBody s_text) (defScope s_text) .none kV_text dc_text pm_text an_text cd_text ct_text), sl_text⟩) (c_text : PySem.W.codeIn K cd_text "_law_text" = true) (k_text : PySem.W.keepIn K (.ref f_text) = true)
    {f_mark : Addr} {od_mark an_mark : Option Addr} {sl_mark : Array (Option Value)} {oc_mark kV_mark dc_mark pm_mark cd_mark ct_mark : Value}
    (a_mark : PySem.W.nsIn K mainGlobals "_law_mark" = some (some (.ref f_mark))) (l_mark : K.lookup f_mark = some ⟨oc_mark, od_mark, .func (PySem.W.fnOf "_law_mark" "_law_mark" (defArgs s_mark) (defBody s_mark) (defScope s_mark) .none kV_mark dc_mark pm_mark an_mark cd_mark ct_mark), sl_mark⟩) (c_mark : PySem.W.codeIn K cd_mark "_law_mark" = true) (k_mark : PySem.W.keepIn K (.ref f_mark) = true)
    {f_marks : Addr} {od_marks an_marks : Option Addr} {sl_marks : Array (Option Value)} {oc_marks kV_marks dc_marks pm_marks cd_marks ct_marks : Value}
    (a_marks : PySem.W.nsIn K mainGlobals "_law_marks" = some (some (.ref f_marks))) (l_marks : K.lookup f_marks = some ⟨oc_marks, od_marks, .func (PySem.W.fnOf "_law_marks" "_law_marks" (defArgs s_marks) (defBody s_marks) (defScope s_marks) .none kV_marks dc_marks pm_marks an_marks cd_marks ct_marks), sl_marks⟩) (c_marks : PySem.W.codeIn K cd_marks "_law_marks" = true) (k_marks : PySem.W.keepIn K (.ref f_marks) = true)
    {f_renewed : Addr} {od_renewed an_renewed : Option Addr} {sl_renewed : Array (Option Value)} {oc_renewed kV_renewed dc_renewed pm_renewed cd_renewed ct_renewed : Value}
    (a_renewed : PySem.W.nsIn K mainGlobals "_law_renewed" = some (some (.ref f_renewed))) (l_renewed : K.lookup f_renewed = some ⟨oc_renewed, od_renewed, .func (PySem.W.fnOf "_law_renewed" "_law_renewed" (defArgs s_renewed) (defBody s_renewed) (defScope s_renewed) .none kV_renewed dc_renewed pm_renewed an_renewed cd_renewed ct_renewed), sl_renewed⟩) (c_renewed : PySem.W.codeIn K cd_renewed "_law_renewed" = true) (k_renewed : PySem.W.keepIn K (.ref f_renewed) = true)
    {f_rows : Addr} {od_rows an_rows : Option Addr} {sl_rows : Array (Option Value)} {oc_rows kV_rows dc_rows pm_rows cd_rows ct_rows : Value}
    (a_rows : PySem.W.nsIn K mainGlobals "_law_rows" = some (some (.ref f_rows))) (l_rows : K.lookup f_rows = some ⟨oc_rows, od_rows, .func (PySem.W.fnOf "_law_rows" "_law_rows" (defArgs s_rows) (defBody s_rows) (defScope s_rows) .none kV_rows dc_rows pm_rows an_rows cd_rows ct_rows), sl_rows⟩) (c_rows : PySem.W.codeIn K cd_rows "_law_rows" = true) (k_rows : PySem.W.keepIn K (.ref f_rows) = true)
    {f_due : Addr} {od_due an_due : Option Addr} {sl_due : Array (Option Value)} {oc_due kV_due dc_due pm_due cd_due ct_due : Value}
    (a_due : PySem.W.nsIn K mainGlobals "_law_due" = some (some (.ref f_due))) (l_due : K.lookup f_due = some ⟨oc_due, od_due, .func (PySem.W.fnOf "_law_due" "_law_due" (defArgs s_due) (defBody s_due) (defScope s_due) .none kV_due dc_due pm_due an_due cd_due ct_due), sl_due⟩) (c_due : PySem.W.codeIn K cd_due "_law_due" = true) (k_due : PySem.W.keepIn K (.ref f_due) = true)
    {f_law : Addr} {od_law an_law : Option Addr} {sl_law : Array (Option Value)} {oc_law kV_law dc_law pm_law cd_law ct_law : Value}
    (a_law : PySem.W.nsIn K mainGlobals "law" = some (some (.ref f_law))) (l_law : K.lookup f_law = some ⟨oc_law, od_law, .func (PySem.W.fnOf "law" "law" (defArgs s_law) (defBody s_law) (defScope s_law) .none kV_law dc_law pm_law an_law cd_law ct_law), sl_law⟩) (c_law : PySem.W.codeIn K cd_law "law" = true) (k_law : PySem.W.keepIn K (.ref f_law) = true)
    {c_NoRoom : Addr} (ac_NoRoom : PySem.W.nsIn K mainGlobals "NoRoom" = some (some (.ref c_NoRoom))) (xc_NoRoom : PySem.W.excIn K c_NoRoom [.type "ValueError", .type "Exception", .type "BaseException", .type "object"] "ValueError.__new__" = true)
    {t_SMALL : Tok} (q_SMALL : PySem.W.nsIn K mainGlobals "SMALL" = some (some (.str "abcdefghijklmnopqrstuvwxyz" t_SMALL)))
    (z_len : PySem.W.nsIn K mainGlobals "len" = some none)
    (z_list : PySem.W.nsIn K mainGlobals "list" = some none)
    (z_min : PySem.W.nsIn K mainGlobals "min" = some none)
    (z_range : PySem.W.nsIn K mainGlobals "range" = some none)
    (z_reversed : PySem.W.nsIn K mainGlobals "reversed" = some none)
    (z_sorted : PySem.W.nsIn K mainGlobals "sorted" = some none)
    : ∃ a : Ad, Tx K mg a ∧ mg "law" = some (.ref a.f_law) ∧ ∀ (s : Shared) (v : Value), BindsTo s a.fd_law ⟨[v], []⟩ [("_law_script", v)] := by
  have F_p23 := fun_mk (st := s_p23) l_p23 c_p23 k_p23
  have b_p23 := F_p23.binds (ps := ["letters", "long"]) fun _ _ _ _ _ _ us hl => by obtain ⟨_, _, e⟩ := ex2 hl; subst e; rfl
  have F_p13 := fun_mk (st := s_p13) l_p13 c_p13 k_p13
  have b_p13 := F_p13.binds (ps := ["mark", "place"]) fun _ _ _ _ _ _ us hl => by obtain ⟨_, _, e⟩ := ex2 hl; subst e; rfl
  have F_p26 := fun_mk (st := s_p26) l_p26 c_p26 k_p26
  have b_p26 := F_p26.binds (ps := ["letters", "mark", "long"]) fun _ _ _ _ _ _ us hl => by obtain ⟨_, _, _, e⟩ := ex3 hl; subst e; rfl
  have F_p18 := fun_mk (st := s_p18) l_p18 c_p18 k_p18
  have b_p18 := F_p18.binds (ps := ["letters", "number", "long"]) fun _ _ _ _ _ _ us hl => by obtain ⟨_, _, _, e⟩ := ex3 hl; subst e; rfl
  have F_p12 := fun_mk (st := s_p12) l_p12 c_p12 k_p12
  have b_p12 := F_p12.binds (ps := ["letters", "hands", "hand"]) fun _ _ _ _ _ _ us hl => by obtain ⟨_, _, _, e⟩ := ex3 hl; subst e; rfl
  have F_p8 := fun_mk (st := s_p8) l_p8 c_p8 k_p8
  have b_p8 := F_p8.binds (ps := ["low", "high"]) fun _ _ _ _ _ _ us hl => by obtain ⟨_, _, e⟩ := ex2 hl; subst e; rfl
  have F_p15 := fun_mk (st := s_p15) l_p15 c_p15 k_p15
  have b_p15 := F_p15.binds (ps := ["letters", "high", "long"]) fun _ _ _ _ _ _ us hl => by obtain ⟨_, _, _, e⟩ := ex3 hl; subst e; rfl
  have F_p21 := fun_mk (st := s_p21) l_p21 c_p21 k_p21
  have b_p21 := F_p21.binds (ps := ["letters", "ends", "number"]) fun _ _ _ _ _ _ us hl => by obtain ⟨_, _, _, e⟩ := ex3 hl; subst e; rfl
  have F_p22 := fun_mk (st := s_p22) l_p22 c_p22 k_p22
  have b_p22 := F_p22.binds (ps := ["letters", "ends", "low_whole"]) fun _ _ _ _ _ _ us hl => by obtain ⟨_, _, _, e⟩ := ex3 hl; subst e; rfl
  have F_p20 := fun_mk (st := s_p20) l_p20 c_p20 k_p20
  have b_p20 := F_p20.binds (ps := ["letters", "ends", "high", "high_whole", "long", "beginnings"]) fun _ _ _ _ _ _ us hl => by obtain ⟨_, _, _, _, _, _, e⟩ := ex6 hl; subst e; rfl
  have F_p11 := fun_mk (st := s_p11) l_p11 c_p11 k_p11
  have b_p11 := F_p11.binds (ps := ["letters", "ends", "low", "high", "long", "beginnings"]) fun _ _ _ _ _ _ us hl => by obtain ⟨_, _, _, _, _, _, e⟩ := ex6 hl; subst e; rfl
  have F_p19 := fun_mk (st := s_p19) l_p19 c_p19 k_p19
  have b_p19 := F_p19.binds (ps := ["letters", "hands", "hand", "low", "high", "long", "number"]) fun _ _ _ _ _ _ us hl => by obtain ⟨_, _, _, _, _, _, _, e⟩ := ex7 hl; subst e; rfl
  have F_p17 := fun_mk (st := s_p17) l_p17 c_p17 k_p17
  have b_p17 := F_p17.binds (ps := ["letters", "ends", "low", "high", "many", "beginnings"]) fun _ _ _ _ _ _ us hl => by obtain ⟨_, _, _, _, _, _, e⟩ := ex6 hl; subst e; rfl
  have F_p25 := fun_mk (st := s_p25) l_p25 c_p25 k_p25
  have b_p25 := F_p25.binds (ps := ["letters", "low", "high"]) fun _ _ _ _ _ _ us hl => by obtain ⟨_, _, _, e⟩ := ex3 hl; subst e; rfl
  have F_p24 := fun_mk (st := s_p24) l_p24 c_p24 k_p24
  have b_p24 := F_p24.binds (ps := ["rows", "mark"]) fun _ _ _ _ _ _ us hl => by obtain ⟨_, _, e⟩ := ex2 hl; subst e; rfl
  have F_p14 := fun_mk (st := s_p14) l_p14 c_p14 k_p14
  have b_p14 := F_p14.binds (ps := ["rows"]) fun _ _ _ _ _ _ us hl => by obtain ⟨_, e⟩ := ex1 hl; subst e; rfl
  have F_p10 := fun_mk (st := s_p10) l_p10 c_p10 k_p10
  have b_p10 := F_p10.binds (ps := ["letters", "rows", "mark", "stems"]) fun _ _ _ _ _ _ us hl => by obtain ⟨_, _, _, _, e⟩ := ex4 hl; subst e; rfl
  have F_p9 := fun_mk (st := s_p9) l_p9 c_p9 k_p9
  have b_p9 := F_p9.binds (ps := ["letters", "rows", "mark"]) fun _ _ _ _ _ _ us hl => by obtain ⟨_, _, _, e⟩ := ex3 hl; subst e; rfl
  have F_draw := fun_mk (st := s_draw) l_draw c_draw k_draw
  have b_draw := F_draw.binds (ps := ["_law_script", "_law_k", "_law_many"]) fun _ _ _ _ _ _ us hl => by obtain ⟨_, _, _, e⟩ := ex3 hl; subst e; rfl
  have F_letters := fun_mk (st := s_letters) l_letters c_letters k_letters
  have b_letters := F_letters.binds (ps := ["_law_script"]) fun _ _ _ _ _ _ us hl => by obtain ⟨_, e⟩ := ex1 hl; subst e; rfl
  have F_text := fun_mk (st := s_text) l_text c_text k_text
  have b_text := F_text.binds (ps := ["_law_letters_here", "_law_number", "_law_long"]) fun _ _ _ _ _ _ us hl => by obtain ⟨_, _, _, e⟩ := ex3 hl; subst e; rfl
  have F_mark := fun_mk (st := s_mark) l_mark c_mark k_mark
  have b_mark := F_mark.binds (ps := ["_law_script", "_law_base", "_law_letters_here"]) fun _ _ _ _ _ _ us hl => by obtain ⟨_, _, _, e⟩ := ex3 hl; subst e; rfl
  have F_marks := fun_mk (st := s_marks) l_marks c_marks k_marks
  have b_marks := F_marks.binds (ps := ["_law_script", "_law_base", "_law_letters_here", "_law_many"]) fun _ _ _ _ _ _ us hl => by obtain ⟨_, _, _, _, e⟩ := ex4 hl; subst e; rfl
  have F_renewed := fun_mk (st := s_renewed) l_renewed c_renewed k_renewed
  have b_renewed := F_renewed.binds (ps := ["_law_letters_here", "_law_many"]) fun _ _ _ _ _ _ us hl => by obtain ⟨_, _, e⟩ := ex2 hl; subst e; rfl
  have F_rows := fun_mk (st := s_rows) l_rows c_rows k_rows
  have b_rows := F_rows.binds (ps := ["_law_script", "_law_base", "_law_letters_here", "_law_marks_here"]) fun _ _ _ _ _ _ us hl => by obtain ⟨_, _, _, _, e⟩ := ex4 hl; subst e; rfl
  have F_due := fun_mk (st := s_due) l_due c_due k_due
  have b_due := F_due.binds (ps := ["_law_letters_here", "_law_rows_here", "_law_mark_here"]) fun _ _ _ _ _ _ us hl => by obtain ⟨_, _, _, e⟩ := ex3 hl; subst e; rfl
  have F_law := fun_mk (st := s_law) l_law c_law k_law
  have b_law := F_law.binds (ps := ["_law_script"]) fun _ _ _ _ _ _ us hl => by obtain ⟨_, e⟩ := ex1 hl; subst e; rfl
  exact ⟨⟨c_NoRoom, f_p23, f_p13, f_p26, f_p18, f_p12, f_p8, f_p15, f_p21, f_p22, f_p20, f_p11, f_p19, f_p17, f_p25, f_p24, f_p14, f_p10, f_p9, f_draw, f_letters, f_text, f_mark, f_marks, f_renewed, f_rows, f_due, f_law, _, _, _, _, _, _, _, _, _, _, _, _, _, _, _, _, _, _, _, _, _, _, _, _, _, _, _⟩, ⟨PySem.W.mg_none_of X G z_len, PySem.W.mg_none_of X G z_list, PySem.W.mg_none_of X G z_min, PySem.W.mg_none_of X G z_range, PySem.W.mg_none_of X G z_reversed, PySem.W.mg_none_of X G z_sorted, ⟨_, PySem.W.mg_of X G q_SMALL⟩, PySem.W.mg_of X G ac_NoRoom, xc_NoRoom, PySem.W.mg_of X G a_p23, F_p23, b_p23, PySem.W.mg_of X G a_p13, F_p13, b_p13, PySem.W.mg_of X G a_p26, F_p26, b_p26, PySem.W.mg_of X G a_p18, F_p18, b_p18, PySem.W.mg_of X G a_p12, F_p12, b_p12, PySem.W.mg_of X G a_p8, F_p8, b_p8, PySem.W.mg_of X G a_p15, F_p15, b_p15, PySem.W.mg_of X G a_p21, F_p21, b_p21, PySem.W.mg_of X G a_p22, F_p22, b_p22, PySem.W.mg_of X G a_p20, F_p20, b_p20, PySem.W.mg_of X G a_p11, F_p11, b_p11, PySem.W.mg_of X G a_p19, F_p19, b_p19, PySem.W.mg_of X G a_p17, F_p17, b_p17, PySem.W.mg_of X G a_p25, F_p25, b_p25, PySem.W.mg_of X G a_p24, F_p24, b_p24, PySem.W.mg_of X G a_p14, F_p14, b_p14, PySem.W.mg_of X G a_p10, F_p10, b_p10, PySem.W.mg_of X G a_p9, F_p9, b_p9, PySem.W.mg_of X G a_draw, F_draw, b_draw, PySem.W.mg_of X G a_letters, F_letters, b_letters, PySem.W.mg_of X G a_text, F_text, b_text, PySem.W.mg_of X G a_mark, F_mark, b_mark, PySem.W.mg_of X G a_marks, F_marks, b_marks, PySem.W.mg_of X G a_renewed, F_renewed, b_renewed, PySem.W.mg_of X G a_rows, F_rows, b_rows, PySem.W.mg_of X G a_due, F_due, b_due, PySem.W.mg_of X G a_law, F_law, b_law⟩, PySem.W.mg_of X G a_law, fun s v => .of_eq rfl⟩
theorem walk {l : PySem.W.OpenLaw} {q : Program} {loose : List Str} {XP : (Str → Option Value) → Heap → Prop} {YP : World → Heap → Prop} {d : DefRec} {K : Params → PySem.W.Frag} (hn : l.most = some 63) (hdf : d.params.defaults = [])
    (hY : ∀ (w : World) (h : Heap), YP w h → (K w.params).In h)
    (F : ∀ (w : World) (mg : Str → Option Value) (fa : Addr) (h : Heap), (K w.params).In h → h.Ns mainGlobals mg → mg d.name = some (.ref fa) →
      ∃ fd : FuncData, (∀ (s : Shared) (u : Value), BindsTo s fd ⟨[u], []⟩ [("_law_script", u)]) ∧ ∀ base : Heap, (K w.params).In base → base.Ns mainGlobals mg → FnOk l.prog w (K w.params) mg base CX0 8 fa fd ["_law_script"] (spLaw (K w.params))) :
    PySem.W.WalkO q loose XP YP l.row.toRowW d [] (fun f vs => PySem.call f vs) :=
  L2.walk_of (n := 63) (k := 8) (x := "_law_script") (CX := fun _ => CX0) (sp := fun w => spLaw (K w.params)) hn (by decide) hdf ⟨rfl, by decide, by decide⟩ hY F (fun _ _ a ns hl _ hS => ⟨a, ns, rfl, hS, hl, fun _ => rfl⟩) fun _ _ _ _ _ z => z
end K42
open PySem PySem.W PyProof.Rows
set_option maxRecDepth 100000 in
set_option maxHeartbeats 0 in
theorem PySem.Challenge.cw_shelfmark_k42_whole_marks_carried_holds : PySem.Challenge.rw_shelfmark_k42_whole_marks_carried.Holds := by
  w_on; o_law; k_head; (case hw => w_witness2)
  k_fill
  refine K42.walk (l := PySem.Challenge.rw_shelfmark_k42_whole_marks_carried) rfl rfl (fun w h Y => PySem.W.kIn_of Y) ?F
  case F =>
    intro w mg fa h KX G hmg
    have M : ∃ a : K42.Ad, K42.Tx (L2.KOf KX) mg a ∧ mg "law" = some (.ref a.f_law) ∧ ∀ (s : Shared) (v : Value), BindsTo s a.fd_law ⟨[v], []⟩ [("_law_script", v)] := by
      dsimp only [L2.KOf]
      refine' K42.tx_mk KX G (a_p23 := ?a_p23) (l_p23 := ?l_p23) (c_p23 := ?c_p23) (k_p23 := ?k_p23) (a_p13 := ?a_p13) (l_p13 := ?l_p13) (c_p13 := ?c_p13) (k_p13 := ?k_p13) (a_p26 := ?a_p26) (l_p26 := ?l_p26) (c_p26 := ?c_p26) (k_p26 := ?k_p26) (a_p18 := ?a_p18) (l_p18 := ?l_p18) (c_p18 := ?c_p18) (k_p18 := ?k_p18) (a_p12 := ?a_p12) (l_p12 := ?l_p12) (c_p12 := ?c_p12) (k_p12 := ?k_p12) (a_p8 := ?a_p8) (l_p8 := ?l_p8) (c_p8 := ?c_p8) (k_p8 := ?k_p8) (a_p15 := ?a_p15) (l_p15 := ?l_p15) (c_p15 := ?c_p15) (k_p15 := ?k_p15) (a_p21 := ?a_p21) (l_p21 := ?l_p21) (c_p21 := ?c_p21) (k_p21 := ?k_p21) (a_p22 := ?a_p22) (l_p22 := ?l_p22) (c_p22 := ?c_p22) (k_p22 := ?k_p22) (a_p20 := ?a_p20) (l_p20 := ?l_p20) (c_p20 := ?c_p20) (k_p20 := ?k_p20) (a_p11 := ?a_p11) (l_p11 := ?l_p11) (c_p11 := ?c_p11) (k_p11 := ?k_p11) (a_p19 := ?a_p19) (l_p19 := ?l_p19) (c_p19 := ?c_p19) (k_p19 := ?k_p19) (a_p17 := ?a_p17) (l_p17 := ?l_p17) (c_p17 := ?c_p17) (k_p17 := ?k_p17) (a_p25 := ?a_p25) (l_p25 := ?l_p25) (c_p25 := ?c_p25) (k_p25 := ?k_p25) (a_p24 := ?a_p24) (l_p24 := ?l_p24) (c_p24 := ?c_p24) (k_p24 := ?k_p24) (a_p14 := ?a_p14) (l_p14 := ?l_p14) (c_p14 := ?c_p14) (k_p14 := ?k_p14) (a_p10 := ?a_p10) (l_p10 := ?l_p10) (c_p10 := ?c_p10) (k_p10 := ?k_p10) (a_p9 := ?a_p9) (l_p9 := ?l_p9) (c_p9 := ?c_p9) (k_p9 := ?k_p9) (a_draw := ?a_draw) (l_draw := ?l_draw) (c_draw := ?c_draw) (k_draw := ?k_draw) (a_letters := ?a_letters) (l_letters := ?l_letters) (c_letters := ?c_letters) (k_letters := ?k_letters) (a_text := ?a_text) (l_text := ?l_text) (c_text := ?c_text) (k_text := ?k_text) (a_mark := ?a_mark) (l_mark := ?l_mark) (c_mark := ?c_mark) (k_mark := ?k_mark) (a_marks := ?a_marks) (l_marks := ?l_marks) (c_marks := ?c_marks) (k_marks := ?k_marks) (a_renewed := ?a_renewed) (l_renewed := ?l_renewed) (c_renewed := ?c_renewed) (k_renewed := ?k_renewed) (a_rows := ?a_rows) (l_rows := ?l_rows) (c_rows := ?c_rows) (k_rows := ?k_rows) (a_due := ?a_due) (l_due := ?l_due) (c_due := ?c_due) (k_due := ?k_due) (a_law := ?a_law) (l_law := ?l_law) (c_law := ?c_law) (k_law := ?k_law) (ac_NoRoom := ?ac_NoRoom) (xc_NoRoom := ?xc_NoRoom) (q_SMALL := ?q_SMALL) (z_len := ?z_len) (z_list := ?z_list) (z_min := ?z_min) (z_range := ?z_range) (z_reversed := ?z_reversed) (z_sorted := ?z_sorted)
      (case a_p23 => k_is)
      (case l_p23 => k_is)
      (case c_p23 => k_is)
      (case k_p23 => k_is)
      (case a_p13 => k_is)
      (case l_p13 => k_is)
      (case c_p13 => k_is)
      (case k_p13 => k_is)
      (case a_p26 => k_is)
      (case l_p26 => k_is)
      (case c_p26 => k_is)
      (case k_p26 => k_is)
      (case a_p18 => k_is)
      (case l_p18 => k_is)
      (case c_p18 => k_is)
      (case k_p18 => k_is)
      (case a_p12 => k_is)
      (case l_p12 => k_is)
      (case c_p12 => k_is)
      (case k_p12 => k_is)
      (case a_p8 => k_is)
      (case l_p8 => k_is)
      (case c_p8 => k_is)
      (case k_p8 => k_is)
      (case a_p15 => k_is)
      (case l_p15 => k_is)
      (case c_p15 => k_is)
      (case k_p15 => k_is)
      (case a_p21 => k_is)
      (case l_p21 => k_is)
      (case c_p21 => k_is)
      (case k_p21 => k_is)
      (case a_p22 => k_is)
      (case l_p22 => k_is)
      (case c_p22 => k_is)
      (case k_p22 => k_is)
      (case a_p20 => k_is)
      (case l_p20 => k_is)
      (case c_p20 => k_is)
      (case k_p20 => k_is)
      (case a_p11 => k_is)
      (case l_p11 => k_is)
      (case c_p11 => k_is)
      (case k_p11 => k_is)
      (case a_p19 => k_is)
      (case l_p19 => k_is)
      (case c_p19 => k_is)
      (case k_p19 => k_is)
      (case a_p17 => k_is)
      (case l_p17 => k_is)
      (case c_p17 => k_is)
      (case k_p17 => k_is)
      (case a_p25 => k_is)
      (case l_p25 => k_is)
      (case c_p25 => k_is)
      (case k_p25 => k_is)
      (case a_p24 => k_is)
      (case l_p24 => k_is)
      (case c_p24 => k_is)
      (case k_p24 => k_is)
      (case a_p14 => k_is)
      (case l_p14 => k_is)
      (case c_p14 => k_is)
      (case k_p14 => k_is)
      (case a_p10 => k_is)
      (case l_p10 => k_is)
      (case c_p10 => k_is)
      (case k_p10 => k_is)
      (case a_p9 => k_is)
      (case l_p9 => k_is)
      (case c_p9 => k_is)
      (case k_p9 => k_is)
      (case a_draw => k_is)
      (case l_draw => k_is)
      (case c_draw => k_is)
      (case k_draw => k_is)
      (case a_letters => k_is)
      (case l_letters => k_is)
      (case c_letters => k_is)
      (case k_letters => k_is)
      (case a_text => k_is)
      (case l_text => k_is)
      (case c_text => k_is)
      (case k_text => k_is)
      (case a_mark => k_is)
      (case l_mark => k_is)
      (case c_mark => k_is)
      (case k_mark => k_is)
      (case a_marks => k_is)
      (case l_marks => k_is)
      (case c_marks => k_is)
      (case k_marks => k_is)
      (case a_renewed => k_is)
      (case l_renewed => k_is)
      (case c_renewed => k_is)
      (case k_renewed => k_is)
      (case a_rows => k_is)
      (case l_rows => k_is)
      (case c_rows => k_is)
      (case k_rows => k_is)
      (case a_due => k_is)
      (case l_due => k_is)
      (case c_due => k_is)
      (case k_due => k_is)
      (case a_law => k_is)
      (case l_law => k_is)
      (case c_law => k_is)
      (case k_law => k_is)
      (case ac_NoRoom => k_is)
      (case xc_NoRoom => k_exc)
      (case q_SMALL => k_is)
      (case z_len => k_is)
      (case z_list => k_is)
      (case z_min => k_is)
      (case z_range => k_is)
      (case z_reversed => k_is)
      (case z_sorted => k_is)
    obtain ⟨a, T, hl, hb⟩ := M
    have e0 := hmg.symm.trans hl
    cases e0
    exact ⟨_, hb, fun base _ _ => K42.ok_law T⟩
