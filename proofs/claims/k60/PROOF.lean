import PyProof.Rows.All
import Wide.All
import OpenK.AllK
import Wide.FinOn
import Lean
import PyProof.EqAt
import PyProof.EqKinds
import PyProof.TupleCall
import KE.IntBitsLaws
import PyProof.Rows.CallKwBuiltin
import KE.KRevIter
import KE.KDictSum
import PyProof.AttrMissHeap
import KE.KDictOf
import KE.KSortTup
import KE.KItemsList
import PyProof.LongRange
import PySem.Challenge.RW_shelfmark_k60_a_hand_alone
set_option Elab.async false
set_option linter.all false
set_option maxRecDepth 100000
set_option maxHeartbeats 4000000
namespace L2
open PySem PySem.Spec PyProof.Rows
inductive Key where
  | inl (i:Int) | inr (x:Str) | non
deriving DecidableEq
def isNon:Value→Bool
  | .none=>true
  | _=>false
def keyIs:Key→Value→Bool
  | .inl k,v=>Value.isInt k v
  | .inr x,v=>Value.isStrOf x v
  | .non,v=>isNon v
def keyH (w:World):Key→Int
  | .inl k=>hashInt k
  | .inr x=>hashStr w x
  | .non=>(reduceHash 4238894112)
theorem keyIs_shape:∀ {k:Key} {v:Value},keyIs k v = true→(∃ i t,k = Key.inl i∧v = Value.int i t) ∨ (∃ x t,k = Key.inr x∧v = Value.str x t) ∨ (k = Key.non∧v = Value.none)
  | .inl i,v,h=>by
    obtain ⟨t,e⟩:=Value.isInt_shape (k:=i) (v:=v) h
    exact .inl ⟨i,t,rfl,e⟩
  | .inr x,v,h=>by
    obtain ⟨t,e⟩:=Value.isStrOf_shape (x:=x) (v:=v) h
    exact .inr (.inl ⟨x,t,rfl,e⟩)
  | .non,v,h=>by
    cases v <;> first | exact .inr (.inr ⟨rfl,rfl⟩) | exact nomatch (show false = true from h)
theorem keyIs_int (i:Int) (t:Tok):keyIs (.inl i) (.int i t) = true:=by simp [keyIs,Value.isInt]
theorem keyIs_str (x:Str) (t:Tok):keyIs (.inr x) (.str x t) = true:=by simp [keyIs,Value.isStrOf]
theorem key_ll (a b:Int):decide (Key.inl a = Key.inl b) = (a == b):=by
  by_cases e:a = b
  · subst e; simp
  · rw [decide_eq_false (fun q=>e (Key.inl.inj q))]; exact (beq_eq_false_iff_ne.mpr e).symm
theorem key_rr (a b:Str):decide (Key.inr a = Key.inr b) = decide (a = b):=by
  by_cases e:a = b
  · subst e; simp
  · rw [decide_eq_false (fun q=>e (Key.inr.inj q)),decide_eq_false e]
theorem hash_non {prog:Program} {w:World} {A:Around} {E:Value→Shared→Prop} {s:Shared} {Q:Int→Shared→Prop} (h:Q (reduceHash 4238894112) { s with toks:=s.toks + 1 }):wpAny (model prog w) A (pyHash .none) Q E s:=
  W.pyHash_slot (T:="NoneType") rfl F.slot_NoneType_hash F.entry_NoneType_hash (F.args_NoneType_hash_1 _) (beq_builtin_none _) (.inl rfl) (wpAny_bind (wpAny_pure (wpAny_bind (wpAny_mkInt (wpAny_pure ⟨_,_,rfl,h⟩)))))
theorem eq_non {prog:Program} {w:World} {A:Around} {E:Value→Shared→Prop} {s:Shared} {Q:Bool→Shared→Prop} (h:Q true s):wpAny (model prog w) A (eqBool .none .none) Q E s:=by
  unfold eqBool
  refine wpAny_holding ?_
  rw [if_pos (by decide)]
  exact wpAny_bind (wpAny_rule (wpAny_pure h))
def mixKind (prog:Program) (w:World):PySem.KeyKind prog w Key where
  is:=keyIs
  hash:=keyH w
  inj:=fun v a b ha hb=>by
    rcases keyIs_shape ha with ⟨i,t,rfl,rfl⟩ | ⟨x,t,rfl,rfl⟩ | ⟨rfl,rfl⟩ <;> rcases keyIs_shape hb with ⟨j,u,rfl,e⟩ | ⟨y,u,rfl,e⟩ | ⟨rfl,e⟩ <;>
      first | (cases e; rfl) | cases e
  byValue:=fun k v h=>by
    rcases keyIs_shape h with ⟨i,t,rfl,rfl⟩ | ⟨x,t,rfl,rfl⟩ | ⟨rfl,rfl⟩ <;> rfl
  pyHash:=fun hv h=>by
    rcases keyIs_shape hv with ⟨i,t,rfl,rfl⟩ | ⟨x,t,rfl,rfl⟩ | ⟨rfl,rfl⟩
    · exact wpAny_pyHash_int h
    · exact wpAny_pyHash_str h
    · exact hash_non h
  eqBool:=fun hu hv h=>by
    rcases keyIs_shape hu with ⟨i,t,rfl,rfl⟩ | ⟨x,t,rfl,rfl⟩ | ⟨rfl,rfl⟩ <;> rcases keyIs_shape hv with ⟨j,u,rfl,rfl⟩ | ⟨y,u,rfl,rfl⟩ | ⟨rfl,rfl⟩
    · rw [key_ll] at h; exact wpAny_eqBool_int h
    · exact SeqAt.EqAt.int_str i t y u _ _ _ _ h
    · exact SeqAt.EqAt.int_none i t _ _ _ _ h
    · exact SeqAt.EqAt.str_int x t j u _ _ _ _ h
    · rw [key_rr] at h; exact wpAny_eqBool_str h
    · exact SeqAt.EqAt.str_none x t _ _ _ _ h
    · exact SeqAt.EqAt.none_int j u _ _ _ _ h
    · exact SeqAt.EqAt.none_str y u _ _ _ _ h
    · exact eq_non h
  «strs»:=fun k x t v h=>by
    rcases keyIs_shape h with ⟨i,u,rfl,e⟩ | ⟨y,u,rfl,e⟩ | ⟨rfl,e⟩
    · exact nomatch e
    · injection e with e1 _
      subst e1
      cases v <;> rfl
    · exact nomatch e
theorem mixKind_int (prog:Program) (w:World) (i:Int) (t:Tok):(mixKind prog w).is (.inl i) (.int i t) = true:=keyIs_int i t
theorem mixKind_str (prog:Program) (w:World) (x:Str) (t:Tok):(mixKind prog w).is (.inr x) (.str x t) = true:=keyIs_str x t
inductive V where
  | non | bl (b:Bool) | int (i:Int) | str (x:Str) | byt (b:Array UInt8) | flt (b:UInt64) | ref (a:Addr) | ty (n:String)
  deriving DecidableEq
def RelV:V→Value→Prop
  | .non,u=>u = Value.none
  | .bl b,u=>u = Value.bool b
  | .int i,u=>∃ t,u = Value.int i t
  | .str x,u=>∃ t,u = Value.str x t
  | .byt b,u=>∃ t,u = Value.bytes b t
  | .flt b,u=>∃ t,u = Value.float b t
  | .ref a,u=>u = Value.ref a
  | .ty n,u=>u = Value.type n
abbrev Vals:List V→List Value→Prop:=Paired RelV
theorem Vals.length {xs:List V} {us:List Value} (r:Vals xs us):xs.length = us.length:=Paired.length r
theorem Vals.get:∀ {xs:List V} {us:List Value} {i:Nat} {x:V},Vals xs us→xs[i]? = some x→∃ u,us[i]? = some u∧RelV x u
  | _,_,_,_,.nil,e=>by simp at e
  | _,_,0,_,.cons r _,e=>by simp at e; subst e; exact ⟨_,rfl,r⟩
  | _,_,i + 1,x,.cons _ t,e=>by
    obtain ⟨u,h1,h2⟩:=Vals.get (i:=i) (x:=x) t (by simpa using e)
    exact ⟨u,by simpa using h1,h2⟩
theorem Vals.append:∀ {xs ys:List V} {us ws:List Value},Vals xs us→Vals ys ws→Vals (xs ++ ys) (us ++ ws)
  | _,_,_,_,.nil,s=>s
  | _,_,_,_,.cons r t,s=>.cons r (Vals.append t s)
def RelO:Option V→Option Value→Prop
  | some v,some u=>RelV v u
  | none,none=>True
  | _,_=>False
def KV {κ:Type}:List (κ × V)→List (κ × Value)→Prop:=Paired fun (p:κ × V) (q:κ × Value)=>p.1 = q.1∧RelV p.2 q.2
def kV:Key→V
  | .inl i=>.int i
  | .inr x=>.str x
  | .non=>.non
inductive HO where
  /-- a list -/
  | lst (xs:List V)
  /-- a tuple (never changes) -/
  | tup (xs:List V)
  /-- a dict whose keys are ints and texts; one whose keys are tuples of ints and texts (the empty one is both) -/
  | dK (kvs:List (Key × V)) | dT (kvs:List (List Key × V))
  /-- a set of ints: its members,its size -/
  | set (S:Int→Bool) (n:Nat)
  /-- an instance of the class at C,its dict at dx,its attributes -/
  | ins (C dx:Addr) (fs:List (Str × V))
  /-- the dict of the instance at x -/
  | own (x:Addr)
  /-- the dict of an exception -/
  | xd (fs:List (Str × V))
  /-- a bound method,f of x -/
  | met (f x:Addr)
  /-- a range object lo,lo + 1,.. below hi -/
  | rng (lo hi:Int)
  /-- a thing that is known to the object (the script; a dict while a loop walks it): read,never written while it is so -/
  | frz (o:Obj) (u:HO)
  /-- a code object's table -/
  | tbl (ps:Array Value)
  /-- any other thing,by what is true of its one object (a def of one's own: SetO a S n:=HO.ext fun h=>..) -/
  | ext (φ:Heap→Prop)
abbrev Hp:=Addr→Option HO
def upd (H:Hp) (a:Addr) (o:HO):Hp:=fun b=>if b = a then some o else H b
theorem upd_same {H:Hp} {a:Addr} {o:HO}:upd H a o a = some o:=by unfold upd; rw [if_pos rfl]
theorem upd_ne {H:Hp} {a b:Addr} {o:HO} (h:b ≠ a):upd H a o b = H b:=by unfold upd; rw [if_neg h]
theorem ne_of {H:Hp} {a b:Addr} {o u:HO} (h:H a = some o) (h':H b = some u) (d:o ≠ u):a ≠ b:=by
  intro e; subst e; rw [h] at h'; exact d (Option.some.inj h')
theorem ne_of_none {H:Hp} {a b:Addr} {o:HO} (h:H a = some o) (h':H b = none):a ≠ b:=by
  intro e; subst e; rw [h] at h'; cases h'
section
variable (P:Program) (w:World)
def ObjOk (H:Hp) (h:Heap) (a:Addr):HO→Prop
  | .lst xs=>xs.length ≤ sizeLine∧∃ (its:List Value) (n:Nat),Vals xs its∧h.get? a = some { cls:=.type "list",data:=.seq its.toArray n }
  | .tup xs=>xs.length ≤ sizeLine∧∃ its:List Value,Vals xs its∧IsTup h a its.toArray
  | .dK kvs=>kvs.length ≤ sizeLine∧(a == sysModules) = false∧∃ vs,KV kvs vs∧h.DictOf (mixKind P w) a vs
  | .dT kvs=>kvs.length ≤ sizeLine∧(a == sysModules) = false∧∃ xs:List (List Key × Addr × Value),
      Paired (fun (p:List Key × V) (q:List Key × Addr × Value)=>p.1 = q.1∧H q.2.1 = some (.tup (p.1.map kV))∧RelV p.2 q.2.2) kvs xs∧
      ∃ o es ep,h.get? a = some o∧o.ExactDict∧o.data = .dict es ep∧es.toList = xs.map (entryOfKey (tupleKind (mixKind P w)))∧(xs.map (·.1)).Nodup
  | .set S n=>h.SetOf (intKind P w) a S n
  | .ins C dx fs=>H dx = some (.own a)∧fs.length ≤ 1000∧dx ≠ a∧h.get? a = some (PySem.W.instObj C dx)∧
      ∃ mA,h.Ns1 dx mA∧(∀ f,RelO (fs.lookup f) (mA f))∧PySem.Within mA (fs.map (·.1))
  | .own _=>∃ o,h.get? a = some o
  | .xd fs=>∃ mA,h.Ns1 a mA∧∀ f,RelO (fs.lookup f) (mA f)
  | .rng lo hi=>∃ t u v,h.get? a = some { cls:=.type "range",data:=.fields #[.int lo t,.int hi u,.int 1 v] }
  | .frz o u=>h.get? a = some o∧ObjOk H h a u
  | .tbl ps=>h.get? a = some { cls:=.none,data:=.fields ps }
  | .met f x=>h.get? a = some (PySem.W.methodObj (.ref f) (.ref x))
  | .ext φ=>φ h∧(∃ o,h.get? a = some o)∧∀ h1 h2:Heap,φ h1→(∀ o,h1.get? a = some o→h2.get? a = some o)→φ h2
def HOk (H:Hp) (h:Heap):Prop:=∀ a o,H a = some o→ObjOk P w H h a o
end
section
variable {P:Program} {w:World} {H H':Hp} {h h':Heap} {a:Addr} {o:HO}
theorem ObjOk.lt (x:ObjOk P w H h a o):a < h.objs.size:=by
  cases o with
  | lst xs=>obtain ⟨_,_,_,_,e⟩:=x; exact Heap.lt_size e
  | tup xs=>obtain ⟨_,_,_,p⟩:=x; exact p.lt
  | dK kvs=>obtain ⟨_,_,_,_,o,_,_,e,_⟩:=x; exact Heap.lt_size e
  | dT kvs=>obtain ⟨_,_,_,_,o,_,_,e,_⟩:=x; exact Heap.lt_size e
  | set S n=>obtain ⟨o,_,_,_,e,_⟩:=x; exact Heap.lt_size e
  | ins C dx fs=>obtain ⟨_,_,_,e,_⟩:=x; exact Heap.lt_size e
  | own y=>obtain ⟨_,e⟩:=x; exact Heap.lt_size e
  | xd fs=>obtain ⟨_,⟨_,_,_,e,_⟩,_⟩:=x; exact Heap.lt_size e
  | rng lo hi=>obtain ⟨_,_,_,e⟩:=x; exact Heap.lt_size e
  | frz ob u=>obtain ⟨e,_⟩:=x; exact Heap.lt_size e
  | tbl ps=>exact Heap.lt_size (show h.get? a = some _ from x)
  | met f y=>exact Heap.lt_size (show h.get? a = some _ from x)
  | ext φ=>obtain ⟨_,⟨_,e⟩,_⟩:=x; exact Heap.lt_size e
theorem Paired.mapP {α β:Type} {F G:α→β→Prop}:∀ {l₁:List α} {l₂:List β},Paired F l₁ l₂→(∀ a b,F a b→G a b)→Paired G l₁ l₂
  | _,_,.nil,_=>.nil
  | _,_,.cons r t,f=>.cons (f _ _ r) (Paired.mapP t f)
theorem ObjOk.stay (x:ObjOk P w H h a o) (k:∀ b u,(b = a ∨ H b = some (.own a))→h.get? b = some u→h'.get? b = some u)
    (ho:∀ b,H b = some (.own a)→H' b = some (.own a)) (ht:∀ b xs,H b = some (.tup xs)→H' b = some (.tup xs)):ObjOk P w H' h' a o:=by
  induction o with
  | lst xs=>obtain ⟨z,its,n,r,e⟩:=x; exact ⟨z,its,n,r,k _ _ (.inl rfl) e⟩
  | tup xs=>obtain ⟨z,its,r,ob,e,c⟩:=x; exact ⟨z,its,r,ob,k _ _ (.inl rfl) e,c⟩
  | dK kvs=>obtain ⟨z,y,vs,r,ob,es,ep,e,c⟩:=x; exact ⟨z,y,vs,r,ob,es,ep,k _ _ (.inl rfl) e,c⟩
  | dT kvs=>
    obtain ⟨z,y,xs,r,ob,es,ep,e,c⟩:=x
    exact ⟨z,y,xs,Paired.mapP r fun p q z=>⟨z.1,ht _ _ z.2.1,z.2.2⟩,ob,es,ep,k _ _ (.inl rfl) e,c⟩
  | set S n=>obtain ⟨ob,es,ep,t,e,c⟩:=x; exact ⟨ob,es,ep,t,k _ _ (.inl rfl) e,c⟩
  | ins C dx fs=>
    obtain ⟨d,z,ne,e,mA,⟨od,es,ep,e2,c⟩,r⟩:=x
    exact ⟨ho _ d,z,ne,k _ _ (.inl rfl) e,mA,⟨od,es,ep,k _ _ (.inr d) e2,c⟩,r⟩
  | own y=>obtain ⟨ob,e⟩:=x; exact ⟨ob,k _ _ (.inl rfl) e⟩
  | xd fs=>obtain ⟨mA,⟨od,es,ep,e,c⟩,r⟩:=x; exact ⟨mA,⟨od,es,ep,k _ _ (.inl rfl) e,c⟩,r⟩
  | rng lo hi=>obtain ⟨t,u,v,e⟩:=x; exact ⟨t,u,v,k _ _ (.inl rfl) e⟩
  | frz ob u ih=>obtain ⟨e,q⟩:=x; exact ⟨k _ _ (.inl rfl) e,ih q⟩
  | tbl ps=>
    have e:h.get? a = some { cls:=.none,data:=.fields ps }:=x
    show h'.get? a = some { cls:=.none,data:=.fields ps }
    exact k a _ (.inl rfl) e
  | met f y=>
    have e:h.get? a = some (PySem.W.methodObj (.ref f) (.ref y)):=x
    show h'.get? a = some (PySem.W.methodObj (.ref f) (.ref y))
    exact k a _ (.inl rfl) e
  | ext φ=>obtain ⟨p,⟨o,e⟩,st⟩:=x; exact ⟨st _ _ p fun o q=>k _ _ (.inl rfl) q,⟨o,k _ _ (.inl rfl) e⟩,st⟩
theorem HOk.lt (x:HOk P w H h) (e:H a = some o):a < h.objs.size:=(x a o e).lt
theorem HOk.fresh (x:HOk P w H h) (e:h.objs.size ≤ a):H a = none:=by
  cases q:H a with
  | none=>rfl
  | some u=>exact absurd (Nat.lt_of_lt_of_le (x.lt q) e) (Nat.lt_irrefl _)
theorem HOk.kept (x:HOk P w H h) (k:∀ b u,h.get? b = some u→h'.get? b = some u):HOk P w H h':=fun a o e=>
  (x a o e).stay (fun b u _ q=>k b u q) (fun _ q=>q) fun _ _ q=>q
theorem HOk.laid (x:HOk P w H h) (k:∀ b u,h.get? b = some u→h'.get? b = some u) (hp:h.objs.size ≤ a) (new:ObjOk P w (upd H a o) h' a o):HOk P w (upd H a o) h':=fun b u e=>by
  have hn:=x.fresh hp
  by_cases hb:b = a
  · subst hb; rw [upd_same] at e; cases e; exact new
  · rw [upd_ne hb] at e
    exact (x b u e).stay (fun c v _ q=>k c v q) (fun c q=>by rw [upd_ne (ne_of_none q hn)]; exact q) fun c xs q=>by rw [upd_ne (ne_of_none q hn)]; exact q
end
def Rd (H:Hp) (a:Addr) (u:HO):Prop:=H a = some u ∨ ∃ o,H a = some (.frz o u)
theorem Rd.ok {P:Program} {w:World} {H:Hp} {h:Heap} {a:Addr} {u:HO} (r:Rd H a u) (x:HOk P w H h):ObjOk P w H h a u:=by
  rcases r with r | ⟨o,r⟩
  · exact x a u r
  · obtain ⟨_,q⟩:=x a _ r
    exact q
def Mut:Option HO→Prop
  | some (.lst _)=>True
  | some (.dK _)=>True
  | some (.dT _)=>True
  | some (.set _ _)=>True
  | some (.ins _ _ _)=>True
  | some (.ext _)=>True
  | _=>False
section
variable {P:Program} {w:World} {H:Hp} {h h':Heap} {x e:Addr} {o':HO}
theorem HOk.write (ok:HOk P w H h) (mu:Mut (H x)) (he:e = x ∨ H e = some (.own x)) (k:∀ b u,b ≠ e→h.get? b = some u→h'.get? b = some u) (heo:∃ u,h'.get? e = some u)
    (new:ObjOk P w (upd H x o') h' x o'):HOk P w (upd H x o') h':=fun b u q=>by
  have nown:∀ c y,H c = some (.own y)→c ≠ x:=fun c y r z=>by subst z; rw [r] at mu; exact mu
  have ntup:∀ c xs,H c = some (.tup xs)→c ≠ x:=fun c xs r z=>by subst z; rw [r] at mu; exact mu
  by_cases hb:b = x
  · subst hb; rw [upd_same] at q; cases q; exact new
  · rw [upd_ne hb] at q
    by_cases hbe:b = e
    · have q':H b = some (.own x):=by
        rcases he with z | z
        · exact absurd (hbe.trans z) hb
        · rw [hbe]; exact z
      rw [q] at q'; cases q'
      obtain ⟨v,hv⟩:=heo
      exact ⟨v,by rw [hbe]; exact hv⟩
    · refine (ok b u q).stay (fun c v hc r=>k c v ?_ r) (fun c r=>by rw [upd_ne (nown c b r)]; exact r) fun c xs r=>by rw [upd_ne (ntup c xs r)]; exact r
      rcases hc with rfl | hc
      · exact hbe
      · rintro rfl
        rcases he with z | z
        · exact nown c b hc z
        · rw [hc] at z; cases z; exact hb rfl
end
structure Un (fs ex:List Addr) (H H':Hp) (h h':Heap):Prop where
  keep:∀ b o,h.get? b = some o→H b = none→b ∉ fs→b ∉ ex→h'.get? b = some o
  slot:∀ b o,h.get? b = some o→H b = none→b ∈ fs→b ∉ ex→∃ sl,h'.get? b = some { o with slots:=sl }
  free:∀ b o,h.get? b = some o→H b = none→b ∉ ex→H' b = none
  there:∀ b o,h.get? b = some o→b ∉ ex→∃ o',h'.get? b = some o'
  tups:∀ b xs,H b = some (.tup xs)→H' b = some (.tup xs)
  frzs:∀ b o u,H b = some (.frz o u)→H' b = some (.frz o u)
  tbls:∀ b ps,H b = some (.tbl ps)→∃ more,H' b = some (.tbl (ps ++ more))
section
variable {fs fs' ex ex':List Addr} {H H1 H2:Hp} {h h1 h2 h':Heap} {a x e:Addr} {o:HO}
theorem Un.any (u:Un fs ex H H1 h h1) {b:Addr} {ob:Obj} (q:h.get? b = some ob) (n:H b = none) (hx:b ∉ ex):∃ sl,h1.get? b = some { ob with slots:=sl }:=by
  by_cases hb:b ∈ fs
  · exact u.slot b ob q n hb hx
  · exact ⟨ob.slots,u.keep b ob q n hb hx⟩
theorem Un.kept (k:∀ b u,h.get? b = some u→h'.get? b = some u):Un fs ex H H h h':=
  ⟨fun b ob q _ _ _=>k b ob q,fun b ob q _ _ _=>⟨ob.slots,k b ob q⟩,fun _ _ _ n _=>n,fun b ob q _=>⟨ob,k b ob q⟩,fun _ _ q=>q,fun _ _ _ q=>q,fun _ ps q=>⟨#[],by rw [q]; simp⟩⟩
theorem Un.refl:Un fs ex H H h h:=Un.kept fun _ _ q=>q
theorem Un.laid (k:∀ b u,h.get? b = some u→h'.get? b = some u) (hp:h.objs.size ≤ a) (hn:H a = none):Un fs ex H (upd H a o) h h' where
  keep:=fun b u q _ _ _=>k b u q
  slot:=fun b u q _ _ _=>⟨u.slots,k b u q⟩
  free:=fun b u q n _=>by rw [upd_ne (Nat.ne_of_lt (Nat.lt_of_lt_of_le (Heap.lt_size q) hp))]; exact n
  there:=fun b u q _=>⟨u,k b u q⟩
  tups:=fun b xs q=>by rw [upd_ne (ne_of_none q hn)]; exact q
  frzs:=fun b u xs q=>by rw [upd_ne (ne_of_none q hn)]; exact q
  tbls:=fun b ps q=>⟨#[],by rw [upd_ne (ne_of_none q hn),q]; simp⟩
theorem Un.write (mu:Mut (H x)) (he:e = x ∨ H e = some (.own x)) (k:∀ b u,b ≠ e→h.get? b = some u→h'.get? b = some u) (heo:∃ u,h'.get? e = some u):Un fs ex H (upd H x o) h h':=by
  have hx:∀ b,H b = none→b ≠ x:=fun b n z=>by subst z; rw [n] at mu; exact mu
  have hb:∀ b,H b = none→b ≠ e:=fun b n z=>by
    subst z
    rcases he with r | r
    · exact hx b n r
    · rw [n] at r; cases r
  have hm:∀ b u,H b = some u→¬ Mut (some u)→b ≠ x:=fun b u q nm z=>by subst z; rw [q] at mu; exact nm mu
  refine ⟨fun b u q n _ _=>k b u (hb b n) q,fun b u q n _ _=>⟨u.slots,k b u (hb b n) q⟩,fun b u q n _=>by rw [upd_ne (hx b n)]; exact n,fun b u q _=>?_,
    fun b xs q=>by rw [upd_ne (hm b _ q fun z=>z)]; exact q,fun b u xs q=>by rw [upd_ne (hm b _ q fun z=>z)]; exact q,fun b ps q=>⟨#[],by rw [upd_ne (hm b _ q fun z=>z),q]; simp⟩⟩
  by_cases hbe:b = e
  · subst hbe; exact heo
  · exact ⟨u,k b u hbe q⟩
end
def trk (h:Heap) (H:Hp):List Addr:=(List.range h.objs.size).filter fun a=>(H a).isSome
def hidT (h:Heap) (H:Hp):Heap:=PySem.W.hideAll h (trk h H)
theorem hidT_size (h:Heap) (H:Hp):(hidT h H).objs.size = h.objs.size:=PySem.W.hideAll_size _ _
theorem hidT_get {h:Heap} {H:Hp} {b:Addr} {o:Obj} (e:h.get? b = some o) (n:H b = none):(hidT h H).get? b = some o:=
  PySem.W.hideAll_get _ e fun hm=>by
    have q:(H b).isSome = true:=(List.mem_filter.mp hm).2
    rw [n] at q; simp at q
theorem of_hidT {h:Heap} {H:Hp} {b:Addr} {o:Obj} (e:(hidT h H).get? b = some o):h.get? b = some o∧H b = none:=by
  have e':h.get? b = some o:=PySem.W.of_hideAll (trk h H) e
  refine ⟨e',?_⟩
  cases q:H b with
  | none=>rfl
  | some x=>
    have hm:b ∈ trk h H:=List.mem_filter.mpr ⟨List.mem_range.mpr (Heap.lt_size e'),by simp [q]⟩
    have z:(hidT h H).get? b = none:=PySem.W.hideAll_none (trk h H) hm
    rw [z] at e; cases e
structure Mod (K:PySem.W.Frag) (mg:Str→Option Value) (base:Heap):Prop where
  kin:K.In base
  glob:base.Ns mainGlobals mg
  blt:∃ mb,base.Ns builtinsNs mb∧∀ x:Str,x ≠ "__name__"→mb x = bootBuiltins x
  nolimit:base.NoLimit
structure Cx where
  prog:Program
  w:World
  K:PySem.W.Frag
  mg:Str→Option Value
  base:Heap
  A:Around
  N:List Str
  s₀:Shared
  H₀:Hp
  env:Env
  outer:List Env
  stack:List Env
  ex:List Addr
  fn:Str→Bool
  calm:Bool
  pn:List (Addr × Obj)
  xe:Value→Shared→Prop
def frs (l:List Env):List Addr:=l.filterMap (·.frame)
abbrev Cx.fs (X:Cx):List Addr:=frs X.outer
def Vis (sc:Scope) (x:Str):Prop:=sc.names.lookup x = some .local ∨ sc.names.lookup x = some .cell ∨ sc.names.lookup x = some .free
def Loc (sc:Scope) (x:Str):Prop:=sc.names.lookup x = some .local ∨ sc.names.lookup x = some .cell
def Look (env:Env) (h:Heap) (m:Str→Option Value) (x:Str) (u:Value):Prop:=
  (env.kindOf x = some .local∧m x = some u) ∨ ((env.kindOf x = some .cell ∨ env.kindOf x = some .free)∧∃ c,env.cells.lookup x = some c∧h.IsCell c (some u))
structure Cx.Ok (X:Cx):Prop where
  mod:Mod X.K X.mg X.base
  kind:X.env.scope.kind = .function
  glob:X.env.globals = mainGlobals
  blt:X.env.builtins = builtinsNs
  above:X.s₀.heap.objs.size ≤ X.env.locals
  inj:∀ x y c,X.env.cells.lookup x = some c→X.env.cells.lookup y = some c→x = y
  has:∀ x,(X.env.kindOf x = some .cell ∨ X.env.kindOf x = some .free)→∃ c,X.env.cells.lookup x = some c
  cab:∀ x c,X.fn x = true→X.env.cells.lookup x = some c→X.s₀.heap.objs.size ≤ c
  hd:X.calm = true→X.A.handled = none
  frames:X.A.frames = some X.stack
  stk:X.stack = X.outer ∨ (X.stack = X.env :: X.outer∧X.env.frame = some X.env.locals)
  exf:∀ b ∈ X.ex,b ≠ X.env.locals∧∀ x c,X.env.cells.lookup x = some c→c ≠ b
  bs:∀ b o,X.base.get? b = some o→X.s₀.heap.get? b = some o∧X.H₀ b = none
  bsz:X.base.objs.size ≤ X.s₀.heap.objs.size
  noex:∀ b o,X.base.get? b = some o→b ∉ X.ex
  exfs:∀ b ∈ X.ex,b ∉ X.fs
  funs:X.s₀.heap.FunFrames X.base X.outer
  frf:∀ b ∈ X.fs,X.H₀ b = none
structure Inv (X:Cx) (pins:List (Addr × Obj)) (σ:List (Option V)) (H:Hp) (s:Shared):Prop where
  ok:X.Ok
  os:s.os = X.s₀.os
  bare:AllBare s.gens
  base:Un X.fs X.ex X.H₀ H X.s₀.heap s.heap
  loc:∃ m,s.heap.Ns X.env.locals m∧∀ (i:Nat) (x:Str) (v:V),X.N[i]? = some x→σ[i]? = some (some v)→Vis X.env.scope x→∃ u,RelV v u∧Look X.env s.heap m x u
  cell:∀ x c,X.env.cells.lookup x = some c→∃ v,s.heap.IsCell c v
  free:H X.env.locals = none
  freeC:∀ x c,X.env.cells.lookup x = some c→H c = none
  pin:∀ p ∈ X.pn ++ pins,s.heap.get? p.1 = some p.2∧H p.1 = none∧p.1 ≠ X.env.locals∧p.1 ∉ X.fs∧∀ v,p.2.data ≠ .cell v
  hok:HOk X.prog X.w H s.heap
  len:σ.length = X.N.length
section
variable {X:Cx} {pins:List (Addr × Obj)} {σ:List (Option V)} {H H':Hp} {s:Shared} {h':Heap}
theorem Cx.Ok.nofr (ok:X.Ok) {b:Addr} {o:Obj} (e:X.base.get? b = some o):b ∉ X.fs:=fun hb=>by
  have:=(ok.funs.mem hb).1
  rw [e] at this; cases this
theorem Inv.bs (I:Inv X pins σ H s):∀ b o,X.base.get? b = some o→s.heap.get? b = some o∧H b = none:=fun b o e=>
  ⟨I.base.keep b o (I.ok.bs b o e).1 (I.ok.bs b o e).2 (I.ok.nofr e) (I.ok.noex b o e),I.base.free b o (I.ok.bs b o e).1 (I.ok.bs b o e).2 (I.ok.noex b o e)⟩
theorem Inv.bk (I:Inv X pins σ H s):∀ b o,X.base.get? b = some o→s.heap.get? b = some o:=fun b o e=>(I.bs b o e).1
theorem Inv.mod (I:Inv X pins σ H s):Mod X.K X.mg X.base:=I.ok.mod
theorem Inv.kIn (I:Inv X pins σ H s):X.K.In s.heap:=I.ok.mod.kin.keeps I.bk
theorem Inv.lt (I:Inv X pins σ H s):X.env.locals < s.heap.objs.size:=let ⟨_,hn,_⟩:=I.loc; hn.lt
theorem Inv.sz (I:Inv X pins σ H s):X.s₀.heap.objs.size ≤ s.heap.objs.size:=Nat.le_trans I.ok.above (Nat.le_of_lt I.lt)
theorem Inv.nofs (I:Inv X pins σ H s) {a:Addr} (h:s.heap.objs.size ≤ a):a ∉ X.fs:=fun hb=>by
  obtain ⟨_,o,ho,_⟩:=I.ok.funs.mem hb
  exact absurd (Nat.lt_of_lt_of_le (Heap.lt_size ho) (Nat.le_trans I.sz h)) (Nat.lt_irrefl _)
theorem Inv.cne (I:Inv X pins σ H s):∀ x c,X.env.cells.lookup x = some c→c ≠ X.env.locals:=fun x c e z=>by
  obtain ⟨v,o,ho,hd⟩:=I.cell x c e
  obtain ⟨m,⟨o',es,ep,ho',hd',_⟩,_⟩:=I.loc
  rw [z,ho'] at ho; cases ho; rw [hd'] at hd; cases hd
theorem Inv.funs (I:Inv X pins σ H s):s.heap.FunFrames X.base X.outer:=by
  have all:∀ (l:List Env),(∀ b ∈ frs l,b ∈ X.fs)→X.s₀.heap.FunFrames X.base l→s.heap.FunFrames X.base l:=by
    intro l
    induction l with
    | nil=>intro _ _; trivial
    | cons env r ih=>
      intro hs hl
      obtain ⟨hk,⟨L,o,hf,hn,ho,hd⟩,hr⟩:=hl
      have hL:L ∈ X.fs:=hs L (by unfold frs; rw [List.filterMap_cons,hf]; exact List.mem_cons_self)
      obtain ⟨sl,e⟩:=I.base.slot L o ho (I.ok.frf L hL) hL fun z=>I.ok.exfs L z hL
      exact ⟨hk,⟨L,_,hf,hn,e,hd⟩,ih (fun b hb=>hs b (by unfold frs; rw [List.filterMap_cons,hf]; exact List.mem_cons_of_mem _ hb)) hr⟩
  exact all X.outer (fun _ hb=>hb) I.ok.funs
theorem Inv.stack (I:Inv X pins σ H s):s.heap.FunFrames X.base X.stack:=by
  rcases I.ok.stk with e | ⟨e,hf⟩
  · rw [e]; exact I.funs
  · rw [e]
    obtain ⟨m,hn,_⟩:=I.loc
    refine .cons (by rw [I.ok.kind]; decide) hf hn ?_ I.funs
    exact Heap.get?_none_of_le (Nat.le_trans I.ok.bsz I.ok.above)
theorem Inv.stkSub (I:Inv X pins σ H s):∀ b ∈ frs X.stack,b ∈ X.env.locals :: X.fs:=fun b hb=>by
  rcases I.ok.stk with e | ⟨e,hf⟩
  · rw [e] at hb; exact List.mem_cons_of_mem _ hb
  · rw [e] at hb
    unfold frs at hb
    rw [List.filterMap_cons,hf] at hb
    exact hb
theorem Inv.stkFree (I:Inv X pins σ H s):∀ b ∈ frs X.stack,H b = none:=fun b hb=>by
  rcases List.mem_cons.mp (I.stkSub b hb) with e | hb
  · rw [e]; exact I.free
  · obtain ⟨_,o,ho,_⟩:=I.ok.funs.mem hb
    exact I.base.free b o ho (I.ok.frf b hb) fun z=>I.ok.exfs b z hb
theorem Inv.step {g':Array GenState} {t':Nat} {d':Drawn} {ch:List Addr} (I:Inv X pins σ H s)
    (hch:∀ b ∈ ch,(b ∈ X.ex ∨ X.s₀.heap.objs.size ≤ b)∧b ≠ X.env.locals∧(∀ x c,X.env.cells.lookup x = some c→c ≠ b)∧∀ p ∈ X.pn ++ pins,p.1 ≠ b)
    (keep:∀ b o,b ≠ X.env.locals→b ∉ X.fs→b ∉ ch→s.heap.get? b = some o→H b = none→h'.get? b = some o)
    (slot:∀ b o,b ≠ X.env.locals→b ∈ X.fs→b ∉ ch→s.heap.get? b = some o→H b = none→∃ sl,h'.get? b = some { o with slots:=sl }) (free:∀ b o,b ∉ ch→s.heap.get? b = some o→H b = none→H' b = none)
    (there:∀ b o,b ∉ ch→s.heap.get? b = some o→∃ o',h'.get? b = some o')
    (tups:∀ b xs,H b = some (.tup xs)→H' b = some (.tup xs)) (frzs:∀ b o u,H b = some (.frz o u)→H' b = some (.frz o u)) (tbls:∀ b ps,H b = some (.tbl ps)→∃ more,H' b = some (.tbl (ps ++ more)))
    (ns:∀ m,s.heap.Ns X.env.locals m→h'.Ns X.env.locals m) (hok:HOk X.prog X.w H' h') (hg:AllBare g') :
    Inv X pins σ H' { s with heap:=h',gens:=g',drawn:=d',toks:=t' }:=by
  have neL:∀ b o,X.s₀.heap.get? b = some o→b ≠ X.env.locals:=fun b o e=>Nat.ne_of_lt (Nat.lt_of_lt_of_le (Heap.lt_size e) I.ok.above)
  have neC:∀ b o,X.s₀.heap.get? b = some o→b ∉ X.ex→b ∉ ch:=fun b o e hx hb=>by
    rcases (hch b hb).1 with z | z
    · exact hx z
    · exact absurd (Nat.lt_of_lt_of_le (Heap.lt_size e) z) (Nat.lt_irrefl _)
  have cellK:∀ x c,X.env.cells.lookup x = some c→∀ v,s.heap.IsCell c v→h'.IsCell c v:=fun x c e v ⟨o,ho,hd⟩=>by
    have nch:c ∉ ch:=fun z=>(hch c z).2.2.1 x c e rfl
    by_cases hc:c ∈ X.fs
    · obtain ⟨sl,q⟩:=slot c o (I.cne x c e) hc nch ho (I.freeC x c e)
      exact ⟨_,q,hd⟩
    · exact ⟨o,keep c o (I.cne x c e) hc nch ho (I.freeC x c e),hd⟩
  refine ⟨I.ok,I.os,hg,⟨fun b o e n hb hx=>?_,fun b o e n hb hx=>?_,fun b o e n hx=>?_,fun b o e hx=>?_,fun b xs e=>tups b xs (I.base.tups b xs e),fun b o xs e=>frzs b o xs (I.base.frzs b o xs e),fun b ps e=>?_⟩,?_,fun x c e=>?_,?_,fun x c e=>?_,fun p hp=>?_,hok,I.len⟩
  · exact keep b o (neL b o e) hb (neC b o e hx) (I.base.keep b o e n hb hx) (I.base.free b o e n hx)
  · obtain ⟨sl,e1⟩:=I.base.slot b o e n hb hx
    obtain ⟨sl',e2⟩:=slot b _ (neL b o e) hb (neC b o e hx) e1 (I.base.free b o e n hx)
    exact ⟨sl',e2⟩
  · obtain ⟨o',e1⟩:=I.base.there b o e hx
    exact free b o' (neC b o e hx) e1 (I.base.free b o e n hx)
  · obtain ⟨o',e1⟩:=I.base.there b o e hx
    exact there b o' (neC b o e hx) e1
  · obtain ⟨m1,e1⟩:=I.base.tbls b ps e
    obtain ⟨m2,e2⟩:=tbls b _ e1
    exact ⟨m1 ++ m2,by rw [e2,Array.append_assoc]⟩
  · obtain ⟨m,hn,hl⟩:=I.loc
    refine ⟨m,ns m hn,fun i x v e1 e2 e3=>?_⟩
    obtain ⟨u,r,l⟩:=hl i x v e1 e2 e3
    refine ⟨u,r,?_⟩
    rcases l with l | ⟨k,c,e,z⟩
    · exact .inl l
    · exact .inr ⟨k,c,e,cellK x c e _ z⟩
  · obtain ⟨v,z⟩:=I.cell x c e
    exact ⟨v,cellK x c e v z⟩
  · obtain ⟨m,⟨o,_,_,ho,_⟩,_⟩:=I.loc
    exact free _ o (fun z=>(hch _ z).2.1 rfl) ho I.free
  · obtain ⟨v,o,ho,hd⟩:=I.cell x c e
    exact free c o (fun z=>(hch c z).2.2.1 x c e rfl) ho (I.freeC x c e)
  · obtain ⟨e,n,ne,nf,d⟩:=I.pin p hp
    have nch:p.1 ∉ ch:=fun z=>(hch p.1 z).2.2.2 p hp rfl
    exact ⟨keep p.1 p.2 ne nf nch e n,free p.1 p.2 nch e n,ne,nf,d⟩
theorem Inv.un {t':Nat} (I:Inv X pins σ H s) (u:Un X.fs [] H H' s.heap h') (hok:HOk X.prog X.w H' h'):Inv X pins σ H' { s with heap:=h',toks:=t' }:=by
  obtain ⟨m,⟨o,es,ep,ho,r⟩,_⟩:=id I.loc
  obtain ⟨sl,hL⟩:=u.any ho I.free (by simp)
  exact I.step (g':=s.gens) (d':=s.drawn) (ch:=[]) (fun _ z=>nomatch z) (fun b o _ hb _ e n=>u.keep b o e n hb (by simp)) (fun b o _ hb _ e n=>u.slot b o e n hb (by simp)) (fun b o _ e n=>u.free b o e n (by simp)) (fun b o _ e=>u.there b o e (by simp)) u.tups u.frzs u.tbls (fun m' hm=>by
    obtain ⟨o',es',ep',ho',r'⟩:=hm
    rw [ho] at ho'; cases ho'
    exact ⟨_,es',ep',hL,r'⟩) hok I.bare
theorem Inv.call {g':Array GenState} {t':Nat} {d':Drawn} {ch:List Addr} (I:Inv X pins σ H s) (u:Un (frs X.stack) ch H H' s.heap h') (hok:HOk X.prog X.w H' h') (hg:AllBare g')
    (hch:∀ b ∈ ch,(b ∈ X.ex ∨ X.s₀.heap.objs.size ≤ b)∧b ≠ X.env.locals∧(∀ x c,X.env.cells.lookup x = some c→c ≠ b)∧∀ p ∈ X.pn ++ pins,p.1 ≠ b) :
    Inv X pins σ H' { s with heap:=h',gens:=g',drawn:=d',toks:=t' }:=by
  obtain ⟨m,⟨o,es,ep,ho,r⟩,_⟩:=id I.loc
  obtain ⟨sl,hL⟩:=u.any ho I.free fun z=>(hch _ z).2.1 rfl
  exact I.step (ch:=ch) hch (fun b o hL hb hc e n=>u.keep b o e n (fun z=>(List.mem_cons.mp (I.stkSub b z)).elim hL hb) hc) (fun b o _ _ hc e n=>u.any e n hc) (fun b o hc e n=>u.free b o e n hc) (fun b o hc e=>u.there b o e hc) u.tups u.frzs u.tbls (fun m' hm=>by
    obtain ⟨o',es',ep',ho',r'⟩:=hm
    rw [ho] at ho'; cases ho'
    exact ⟨_,es',ep',hL,r'⟩) hok hg
theorem Inv.turned {t':Nat} {it:Addr} (I:Inv X pins σ H s) (k:∀ b o,b ≠ it→s.heap.get? b = some o→h'.get? b = some o) (hn:H it = none) (hL:it ≠ X.env.locals)
    (h1:it ∈ X.ex ∨ X.s₀.heap.objs.size ≤ it) (h2:∀ x c,X.env.cells.lookup x = some c→c ≠ it) (h3:∀ p ∈ X.pn ++ pins,p.1 ≠ it):Inv X pins σ H { s with heap:=h',toks:=t' }:=by
  have nit:∀ b u,H b = some u→b ≠ it:=fun b u e z=>by rw [z,hn] at e; cases e
  refine I.step (g':=s.gens) (d':=s.drawn) (ch:=[it]) (fun b hb=>?_) (fun b o _ _ hc e _=>k b o (fun z=>hc (by simp [z])) e) (fun b o _ _ hc e _=>⟨o.slots,k b o (fun z=>hc (by simp [z])) e⟩) (fun _ _ _ _ n=>n)
    (fun b o hc e=>⟨o,k b o (fun z=>hc (by simp [z])) e⟩) (fun _ _ e=>e) (fun _ _ _ e=>e) (fun b ps e=>⟨#[],by rw [e]; simp⟩) (fun m hm=>?_) (fun b u e=>?_) I.bare
  · have e:b = it:=by simpa using hb
    subst e
    exact ⟨h1,hL,h2,h3⟩
  · obtain ⟨o,es,ep,ho,r⟩:=hm
    exact ⟨o,es,ep,k _ o (Ne.symm hL) ho,r⟩
  · refine (I.hok b u e).stay (fun c v hc q=>k c v ?_ q) (fun _ q=>q) fun _ _ q=>q
    rcases hc with z | z
    · rw [z]; exact nit b u e
    · exact nit c _ z
theorem Inv.tok (I:Inv X pins σ H s) (t:Nat):Inv X pins σ H { s with toks:=t }:=I.un (h':=s.heap) (t':=t) Un.refl I.hok
theorem Inv.kept {t':Nat} (I:Inv X pins σ H s) (k:∀ b u,s.heap.get? b = some u→h'.get? b = some u):Inv X pins σ H { s with heap:=h',toks:=t' }:=I.un (Un.kept k) (I.hok.kept k)
theorem Inv.laid {a:Addr} {o:HO} {t':Nat} (I:Inv X pins σ H s) (k:∀ b u,s.heap.get? b = some u→h'.get? b = some u) (hp:s.heap.objs.size ≤ a) (new:ObjOk X.prog X.w (upd H a o) h' a o) :
    Inv X pins σ (upd H a o) { s with heap:=h',toks:=t' }:=I.un (Un.laid k hp (I.hok.fresh hp)) (I.hok.laid k hp new)
theorem Inv.write {x e:Addr} {o:HO} {t':Nat} (I:Inv X pins σ H s) (mu:Mut (H x)) (he:e = x ∨ H e = some (.own x)) (k:∀ b u,b ≠ e→s.heap.get? b = some u→h'.get? b = some u) (heo:∃ u,h'.get? e = some u)
    (new:ObjOk X.prog X.w (upd H x o) h' x o):Inv X pins σ (upd H x o) { s with heap:=h',toks:=t' }:=I.un (Un.write mu he k heo) (I.hok.write mu he k heo new)
theorem Inv.weak {σ':List (Option V)} (I:Inv X pins σ H s) (hl:σ'.length = σ.length) (w:∀ (i:Nat) v,σ'[i]? = some (some v)→σ[i]? = some (some v)):Inv X pins σ' H s:=
  ⟨I.ok,I.os,I.bare,I.base,let ⟨m,hn,hl'⟩:=I.loc; ⟨m,hn,fun i x v e1 e2 e3=>hl' i x v e1 (w i v e2) e3⟩,I.cell,I.free,I.freeC,I.pin,I.hok,hl.trans I.len⟩
theorem Inv.pins_of {pins':List (Addr × Obj)} (I:Inv X pins σ H s) (h:∀ p ∈ pins',s.heap.get? p.1 = some p.2∧H p.1 = none∧p.1 ≠ X.env.locals∧p.1 ∉ X.fs∧∀ v,p.2.data ≠ .cell v):Inv X pins' σ H s:=
  ⟨I.ok,I.os,I.bare,I.base,I.loc,I.cell,I.free,I.freeC,fun p hp=>(List.mem_append.mp hp).elim (fun z=>I.pin p (List.mem_append_left _ z)) (h p),I.hok,I.len⟩
theorem nodup_ix {N:List Str} (hN:N.Nodup) {i j:Nat} {x:Str} (a:N[i]? = some x) (b:N[j]? = some x):i = j:=by
  obtain ⟨h1,e1⟩:=List.getElem?_eq_some_iff.mp a
  obtain ⟨h2,e2⟩:=List.getElem?_eq_some_iff.mp b
  exact (List.getElem_inj hN).mp (e1.trans e2.symm)
theorem store_ok2 {M:Model} {A:Around} {E:Value→Shared→Prop} {i:Nat} {x:Str} {v:V} {u:Value} {Q:Unit→Shared→Prop} (I:Inv X pins σ H s) (hN:X.N.Nodup) (hi:X.N[i]? = some x) (hx:Loc X.env.scope x) (r:RelV v u)
    (h:∀ s',Inv X pins (σ.set i (some v)) H s'→(∃ a,Heap.SameBut a s.heap s'.heap∧(a = X.env.locals ∨ X.env.cells.lookup x = some a))→Q () s') (hf:X.fn x = true ∨ X.env.scope.names.lookup x = some .local:=by first | exact .inl rfl | exact .inr rfl | assumption):wpAny M A (storeName X.env x u) Q E s:=by
  obtain ⟨m,hn,hl⟩:=id I.loc
  have hcls:(X.env.scope.kind == .class || (X.env.scope.kind == .module && X.env.locals != X.env.globals)) = false:=by rw [I.ok.kind]; rfl
  have hiσ:i < σ.length:=by rw [I.len]; exact (List.getElem?_eq_some_iff.mp hi).1
  have cne:=I.cne
  have tracked:∀ {a:Addr} {h':Heap},(∃ o,s.heap.get? a = some o∧H a = none)→Heap.SameBut a s.heap h'→HOk X.prog X.w H h':=fun {a h'} ha hs b ob e=>by
    obtain ⟨_,_,hfree⟩:=ha
    refine (I.hok b ob e).stay (fun c w' hc q=>(hs.2 c ?_).trans q) (fun _ q=>q) fun _ _ q=>q
    rintro rfl
    rcases hc with rfl | hc
    · rw [hfree] at e; cases e
    · rw [hfree] at hc; cases hc
  rcases hx with hk | hk
  · refine wpAny_storeName_local hk hn (fun h' hn' hs=>?_) hcls
    obtain ⟨oL,_,_,hoL,_⟩:=id hn
    refine h _ ⟨I.ok,I.os,I.bare,⟨fun b o e n hb hx=>?_,fun b o e n hb hx=>?_,I.base.free,fun b o e hx=>?_,I.base.tups,I.base.frzs,I.base.tbls⟩,⟨_,hn',fun j y v' e1 e2 e3=>?_⟩,fun y c e=>?_,I.free,I.freeC,fun p hp=>?_,tracked ⟨oL,hoL,I.free⟩ hs,by simpa using I.len⟩ ⟨_,hs,.inl rfl⟩
    · exact (hs.2 b (Nat.ne_of_lt (Nat.lt_of_lt_of_le (Heap.lt_size e) I.ok.above))).trans (I.base.keep b o e n hb hx)
    · obtain ⟨sl,e1⟩:=I.base.slot b o e n hb hx
      exact ⟨sl,(hs.2 b (Nat.ne_of_lt (Nat.lt_of_lt_of_le (Heap.lt_size e) I.ok.above))).trans e1⟩
    · obtain ⟨o',e1⟩:=I.base.there b o e hx
      exact ⟨o',(hs.2 b (Nat.ne_of_lt (Nat.lt_of_lt_of_le (Heap.lt_size e) I.ok.above))).trans e1⟩
    · by_cases hj:j = i
      · subst hj
        rw [hi] at e1; cases e1
        rw [List.getElem?_set_self hiσ] at e2
        cases e2
        exact ⟨u,r,.inl ⟨hk,by simp⟩⟩
      · rw [List.getElem?_set_ne (Ne.symm hj)] at e2
        obtain ⟨u',r',q⟩:=hl j y v' e1 e2 e3
        refine ⟨u',r',?_⟩
        rcases q with ⟨k,e⟩ | ⟨k,c,e,z⟩
        · refine .inl ⟨k,?_⟩
          have:y ≠ x:=fun e=>hj (nodup_ix hN e1 (e ▸ hi))
          simp [this,e]
        · exact .inr ⟨k,c,e,z.sameBut hs (cne y c e)⟩
    · obtain ⟨w',z⟩:=I.cell y c e
      exact ⟨w',z.sameBut hs (cne y c e)⟩
    · obtain ⟨e,n,ne,nf,d⟩:=I.pin p hp
      exact ⟨(hs.2 p.1 ne).trans e,n,ne,nf,d⟩
  · have hfn:X.fn x = true:=by
      rcases hf with z | z
      · exact z
      · rw [z] at hk; cases hk
    obtain ⟨c,hc⟩:=I.ok.has x (.inl hk)
    obtain ⟨w',z⟩:=I.cell x c hc
    refine wpAny_storeName_cell I.ok.kind hk hc z (fun h' hc' hs=>?_)
    obtain ⟨oc,hoc,hocd⟩:=id z
    refine h { s with heap:=h' } ⟨I.ok,I.os,I.bare,⟨fun b o e n hb hx=>?_,fun b o e n hb hx=>?_,I.base.free,fun b o e hx=>?_,I.base.tups,I.base.frzs,I.base.tbls⟩,⟨m,hn.sameBut hs (Ne.symm (cne x c hc)),fun j y v' e1 e2 e3=>?_⟩,fun y c' e=>?_,I.free,I.freeC,fun p hp=>?_,tracked ⟨oc,hoc,I.freeC x c hc⟩ hs,by simpa using I.len⟩ ⟨c,hs,.inr hc⟩
    · exact (hs.2 b (Nat.ne_of_lt (Nat.lt_of_lt_of_le (Heap.lt_size e) (I.ok.cab x c hfn hc)))).trans (I.base.keep b o e n hb hx)
    · obtain ⟨sl,e1⟩:=I.base.slot b o e n hb hx
      exact ⟨sl,(hs.2 b (Nat.ne_of_lt (Nat.lt_of_lt_of_le (Heap.lt_size e) (I.ok.cab x c hfn hc)))).trans e1⟩
    · obtain ⟨o',e1⟩:=I.base.there b o e hx
      exact ⟨o',(hs.2 b (Nat.ne_of_lt (Nat.lt_of_lt_of_le (Heap.lt_size e) (I.ok.cab x c hfn hc)))).trans e1⟩
    · by_cases hj:j = i
      · subst hj
        rw [hi] at e1; cases e1
        rw [List.getElem?_set_self hiσ] at e2
        cases e2
        exact ⟨u,r,.inr ⟨.inl hk,c,hc,hc'⟩⟩
      · rw [List.getElem?_set_ne (Ne.symm hj)] at e2
        obtain ⟨u',r',q⟩:=hl j y v' e1 e2 e3
        refine ⟨u',r',?_⟩
        rcases q with q | ⟨k,c',e,z'⟩
        · exact .inl q
        · refine .inr ⟨k,c',e,z'.sameBut hs ?_⟩
          rintro rfl
          exact hj (nodup_ix hN e1 (I.ok.inj _ _ _ e hc ▸ hi))
    · by_cases hcc:c' = c
      · subst hcc; exact ⟨_,hc'⟩
      · obtain ⟨w2,z2⟩:=I.cell y c' e
        exact ⟨w2,z2.sameBut hs hcc⟩
    · obtain ⟨e,n,ne,nf,d⟩:=I.pin p hp
      refine ⟨(hs.2 p.1 ?_).trans e,n,ne,nf,d⟩
      intro q
      rw [q,hoc] at e
      have q':oc = p.2:=Option.some.inj e
      exact d w' (by rw [← q']; exact hocd)
theorem store_ok {M:Model} {A:Around} {E:Value→Shared→Prop} {i:Nat} {x:Str} {v:V} {u:Value} {Q:Unit→Shared→Prop} (I:Inv X pins σ H s) (hN:X.N.Nodup) (hi:X.N[i]? = some x) (hx:Loc X.env.scope x) (r:RelV v u)
    (h:∀ s',Inv X pins (σ.set i (some v)) H s'→Q () s') (hf:X.fn x = true ∨ X.env.scope.names.lookup x = some .local:=by first | exact .inl rfl | exact .inr rfl | assumption):wpAny M A (storeName X.env x u) Q E s:=
  store_ok2 I hN hi hx r (fun s' I' _=>h s' I') hf
theorem Inv.call' {s':Shared} {ch:List Addr} (I:Inv X pins σ H s) (ho:s'.os = s.os) (u:Un (frs X.stack) ch H H' s.heap s'.heap) (hok:HOk X.prog X.w H' s'.heap) (hg:AllBare s'.gens)
    (hch:∀ b ∈ ch,(b ∈ X.ex ∨ X.s₀.heap.objs.size ≤ b)∧b ≠ X.env.locals∧(∀ x c,X.env.cells.lookup x = some c→c ≠ b)∧∀ p ∈ X.pn ++ pins,p.1 ≠ b):Inv X pins σ H' s':=by
  obtain ⟨h',g',d',t',o'⟩:=s'
  have e:o' = s.os:=ho
  subst e
  exact I.call (g':=g') (t':=t') (d':=d') u hok hg hch
end
abbrev XK:=Value→Option Addr→Hp→Prop
abbrev St:=List (Option V)
abbrev VK:=V→Hp→Prop
abbrev TE:=St→Hp→VK→Prop
abbrev TT:=St→Hp→(Bool→Hp→Prop)→Prop
abbrev TA:=St→Hp→(List V→Hp→Prop)→Prop
structure Ends where
  nx:St→Hp→Prop
  rt:VK
  bk:St→Hp→Prop:=fun _ _=>False
  ct:St→Hp→Prop:=fun _ _=>False
abbrev TS:=Ends→St→Hp→Prop
def EP (X:Cx) (pins:List (Addr × Obj)) (σ:St) (Q:VK) (u:Value) (s':Shared):Prop:=∃ v H',Inv X pins σ H' s'∧RelV v u∧Q v H'
def TP (X:Cx) (pins:List (Addr × Obj)) (σ:St) (Q:Bool→Hp→Prop) (b:Bool) (s':Shared):Prop:=∃ H',Inv X pins σ H' s'∧Q b H'
def AP (X:Cx) (pins:List (Addr × Obj)) (σ:St) (Q:List V→Hp→Prop) (us:List Value) (s':Shared):Prop:=∃ vs H',Inv X pins σ H' s'∧Vals vs us∧Q vs H'
def SP (X:Cx) (pins:List (Addr × Obj)) (D:Ends) (f:Flow) (s':Shared):Prop:=
  match f with
  | .next=>∃ σ' H',Inv X pins σ' H' s'∧D.nx σ' H'
  | .brk=>∃ σ' H',Inv X pins σ' H' s'∧D.bk σ' H'
  | .cont=>∃ σ' H',Inv X pins σ' H' s'∧D.ct σ' H'
  | .ret u=>∃ v σ' H',Inv X pins σ' H' s'∧RelV v u∧D.rt v H'
def PE (X:Cx) (e:Expr) (t:TE):Prop:=
  ∀ (pins:List (Addr × Obj)) (s:Shared) (σ:St) (H:Hp) (Q:VK),Inv X pins σ H s→t σ H Q→wpAny (model X.prog X.w) X.A (eval e X.env) (EP X pins σ Q) X.xe s
def PT (X:Cx) (e:Expr) (t:TT):Prop:=
  ∀ (pins:List (Addr × Obj)) (s:Shared) (σ:St) (H:Hp) (Q:Bool→Hp→Prop),Inv X pins σ H s→t σ H Q→wpAny (model X.prog X.w) X.A (isTrue e X.env (eval e X.env)) (TP X pins σ Q) X.xe s
def PW (X:Cx) (e:Expr) (t:TT):Prop:=
  ∀ (whole:Sem Value) (pins:List (Addr × Obj)) (s:Shared) (σ:St) (H:Hp) (Q:Bool→Hp→Prop),Inv X pins σ H s→t σ H Q→wpAny (model X.prog X.w) X.A (isTrue e X.env whole) (TP X pins σ Q) X.xe s
theorem PW.pt {X:Cx} {e:Expr} {t:TT} (h:PW X e t):PT X e t:=h _
def PA (X:Cx) (es:List Expr) (t:TA):Prop:=
  ∀ (pos:Pos) (pins:List (Addr × Obj)) (s:Shared) (σ:St) (H:Hp) (Q:List V→Hp→Prop),Inv X pins σ H s→t σ H Q→wpAny (model X.prog X.w) X.A (spliced (backTo pos (starEach es X.env))) (AP X pins σ Q) X.xe s
def PS (X:Cx) (st:Stmt) (t:TS):Prop:=
  ∀ (pins:List (Addr × Obj)) (s:Shared) (σ:St) (H:Hp) (D:Ends),Inv X pins σ H s→t D σ H→wpAny (model X.prog X.w) X.A (exec st X.env) (SP X pins D) X.xe s
def PSs (X:Cx) (st:List Stmt) (t:TS):Prop:=
  ∀ (pins:List (Addr × Obj)) (s:Shared) (σ:St) (H:Hp) (D:Ends),Inv X pins σ H s→t D σ H→wpAny (model X.prog X.w) X.A (execs st X.env) (SP X pins D) X.xe s
theorem thn {α:Type} {t:Sem α} {Q Q':α→Shared→Prop} {M:Model} {A:Around} {E:Value→Shared→Prop} {s:Shared} (h:wpAny M A t Q E s) (hQ:∀ a s,Q a s→Q' a s):wpAny M A t Q' E s:=wpAny_mono h hQ fun _ _ x=>x
section
variable {X:Cx}
def tVar (i:Nat):TE:=fun σ H Q=>∃ v,σ[i]? = some (some v)∧Q v H
def tC (v:V):TE:=fun _ H Q=>Q v H
theorem pe_var {i : Nat} {x : Str} {pos : Pos} (hN : X.N[i]? = some x) (hv : Vis X.env.scope x) (hd : (x == ("__debug__" : Str)) = false := by decide) (hcd : (x == ("__classdict__" : Str)) = false := by decide) : PE X (.Name x pos) (tVar i) := by
  intro pins s σ H Q I h
  obtain ⟨v,e,h⟩:=h
  obtain ⟨m,hn,hl⟩:=I.loc
  obtain ⟨u,r,l⟩:=hl i x v hN e hv
  have fin:EP X pins σ Q u s:=⟨v,H,I,r,h⟩
  rcases l with ⟨hk,hm⟩ | ⟨hk,c,hc,hcell⟩
  · exact wpAny_Name (wpAny_loadName_local I.ok.kind hk hn hm fin) hd
  · rcases hk with hk | hk
    · exact wpAny_Name (wpAny_loadName_cell I.ok.kind hk hc hcell fin) hd
    · exact wpAny_Name (wpAny_loadName_free I.ok.kind hk hc hcell fin hcd) hd
theorem pe_int {i j pos}:PE X (.Constant (.int i) j pos) (tC (.int i)):=fun _ _ _ H _ I h=>wpAny_Constant_int ⟨.int i,H,I.tok _,⟨_,rfl⟩,h⟩
theorem pe_bl {b j pos}:PE X (.Constant (.bool b) j pos) (tC (.bl b)):=fun _ _ _ H _ I h=>Constant_bool ⟨.bl b,H,I,rfl,h⟩
theorem pe_non {j pos}:PE X (.Constant .none j pos) (tC .non):=fun _ _ _ H _ I h=>Constant_none ⟨.non,H,I,rfl,h⟩
theorem pe_str {x j pos}:PE X (.Constant (.str x) j pos) (tC (.str x)):=fun _ _ _ H _ I h=>Calls.Constant_str ⟨.str x,H,I.tok _,⟨_,rfl⟩,h⟩
def Gl (X:Cx) (x:Str):Prop:=X.env.kindOf x = some .globalImplicit
theorem ld_glob {E:Value→Shared→Prop} {pins:List (Addr × Obj)} {s:Shared} {σ:St} {H:Hp} {x:Str} {u:Value} {pos:Pos} {Q:Value→Shared→Prop} (I:Inv X pins σ H s) (hg:Gl X x) (hm:X.mg x = some u) (h:Q u s)
    (hd:(x == ("__debug__":Str)) = false:=by decide):wpAny (model X.prog X.w) X.A (eval (.Name x pos) X.env) Q E s:=
  Calls.Name_function_global I.ok.kind hg (Calls.loadGlobal_global (by rw [I.ok.glob]; exact I.mod.glob.keeps I.bk) hm h) hd
theorem ld_blt {E:Value→Shared→Prop} {pins:List (Addr × Obj)} {s:Shared} {σ:St} {H:Hp} {x:Str} {u:Value} {pos:Pos} {Q:Value→Shared→Prop} (I:Inv X pins σ H s) (hg:Gl X x) (hm:X.mg x = none) (hv:bootBuiltins x = some u) (h:Q u s)
    (hn : x ≠ "__name__" := by decide) (hd : (x == ("__debug__" : Str)) = false := by decide) : wpAny (model X.prog X.w) X.A (eval (.Name x pos) X.env) Q E s := by
  obtain ⟨mb,h1,h2⟩:=I.mod.blt
  exact Calls.Name_function_global I.ok.kind hg (Calls.loadGlobal_builtin (by rw [I.ok.glob]; exact I.mod.glob.keeps I.bk) hm (by rw [I.ok.blt]; exact h1.keeps I.bk) ((h2 x hn).trans hv) h) hd
theorem pe_glob {x:Str} {v:V} {u:Value} {pos:Pos} (hg:Gl X x) (hm:X.mg x = some u) (r:RelV v u) (hd:(x == ("__debug__":Str)) = false:=by decide):PE X (.Name x pos) (tC v):=
  fun _ _ _ H _ I h=>ld_glob I hg hm ⟨v,H,I,r,h⟩ hd
theorem pe_bltn {x : Str} {v : V} {u : Value} {pos : Pos} (hg : Gl X x) (hm : X.mg x = none) (hv : bootBuiltins x = some u) (r : RelV v u) (hn : x ≠ "__name__" := by decide) (hd : (x == ("__debug__" : Str)) = false := by decide) : PE X (.Name x pos) (tC v) :=
  fun _ _ _ H _ I h=>ld_blt I hg hm hv ⟨v,H,I,r,h⟩ hn hd
variable {a b:Expr} {ta tb:TE} {pos:Pos}
def PC (X:Cx) (op:CmpOp) (a b:Expr) (t:TE):Prop:=
  ∀ (pins:List (Addr × Obj)) (s:Shared) (σ:St) (H:Hp) (Q:VK),Inv X pins σ H s→t σ H Q→
    wpAny (model X.prog X.w) X.A (eval a X.env) (fun v s₁=>wpAny (model X.prog X.w) X.A (eval b X.env) (fun u s₂=>wpAny (model X.prog X.w) X.A (compareOp op v u) (EP X pins σ Q) X.xe s₂) X.xe s₁) X.xe s
theorem nobehind (b:Expr) {op:CmpOp} (h:op ≠ .In) (h2:op ≠ .NotIn):behindInMarks op b = false:=by
  have e1:(op == CmpOp.In) = false:=by cases op <;> first | rfl | exact absurd rfl h
  have e2:(op == CmpOp.NotIn) = false:=by cases op <;> first | rfl | exact absurd rfl h2
  cases b <;> simp [behindInMarks,e1,e2]
def tIsN (ta:TE):TE:=fun σ H Q=>ta σ H fun x H1=>Q (.bl (decide (x = .non))) H1
def tNotN (ta:TE):TE:=fun σ H Q=>ta σ H fun x H1=>Q (.bl (!decide (x = .non))) H1
theorem RelV.none_iff {x:V} {v:Value} (r:RelV x v):(v == Value.none) = decide (x = .non):=by
  cases x with
  | non=>cases r; rfl
  | bl _=>cases r; rfl
  | int _=>obtain ⟨t,rfl⟩:=r; rfl
  | str _=>obtain ⟨t,rfl⟩:=r; rfl
  | byt _=>obtain ⟨t,rfl⟩:=r; rfl
  | flt _=>obtain ⟨t,rfl⟩:=r; rfl
  | ref _=>cases r; rfl
  | ty _=>cases r; rfl
theorem pc_isN {j pos'} (ha:PE X a ta):PC X .Is a (.Constant .none j pos') (tIsN ta):=by
  intro pins s σ H Q I h
  refine thn (ha pins s σ H _ I h) fun v s1 ⟨x,H1,I1,r1,q1⟩=>?_
  exact Constant_none (is_none_gen ⟨.bl _,H1,I1,by rw [r1.none_iff]; rfl,q1⟩)
theorem pc_notN {j pos'} (ha:PE X a ta):PC X .IsNot a (.Constant .none j pos') (tNotN ta):=by
  intro pins s σ H Q I h
  refine thn (ha pins s σ H _ I h) fun v s1 ⟨x,H1,I1,r1,q1⟩=>?_
  exact Constant_none (isnot_none_gen ⟨.bl _,H1,I1,by rw [r1.none_iff]; rfl,q1⟩)
def tB (t:TE):TT:=fun σ H Q=>t σ H fun x H1=>∃ c,x = .bl c∧Q c H1
theorem pt_cmp {op:CmpOp} {t:TE} (h:PC X op a b t) (h1:behindInMarks op b = false:=by first | exact nobehind _ (by decide) (by decide) | rfl):PT X (.Compare a [op] [b] pos) (tB t):=by
  intro pins s σ H Q I hw
  refine wpAny_isTrue_Compare1 (thn (h pins s σ H _ I hw) fun v s1 h1=>thn h1 fun u s2 h2=>thn h2 fun c s3 ⟨x,H1,I1,r1,q1⟩=>?_) h1
  obtain ⟨d,rfl,q⟩:=q1
  cases r1
  exact wpAny_truthy_bool ⟨H1,I1,q⟩
theorem pt_val {e:Expr} {t:TE} (h:PE X e t) (he:∀ whole,isTrue e X.env whole = (do let v ← whole; standAt e.pos; holding [v] (truthy v)):=by intro _; rfl):PT X e (tB t):=by
  intro pins s σ H Q I hw
  refine isTrue_plain (thn (h pins s σ H _ I hw) fun v s1 ⟨x,H1,I1,r1,q1⟩=>?_) (he _)
  obtain ⟨d,rfl,q⟩:=q1
  cases r1
  exact wpAny_truthy_bool ⟨H1,I1,q⟩
variable {tA tB':TT} {rest:List Expr}
def tAnd (t u:TT):TT:=fun σ H Q=>t σ H fun c H1=>if c = true then u σ H1 Q else Q false H1
def tOr (t u:TT):TT:=fun σ H Q=>t σ H fun c H1=>if c = true then Q true H1 else u σ H1 Q
def tNot (t:TT):TT:=fun σ H Q=>t σ H fun c H1=>Q (!c) H1
theorem pw_and1 (ha:PT X a tA):PW X (.BoolOp .And [a] pos) tA:=by
  intro wh pins s σ H Q I h
  refine isTrue_and (thn (ha pins s σ H Q I h) fun c s1 e=>?_)
  cases c with
  | true=>exact isTrue_and_nil e
  | false=>exact e
theorem pw_or1 (ha:PT X a tA):PW X (.BoolOp .Or [a] pos) tA:=by
  intro wh pins s σ H Q I h
  refine isTrue_or (thn (ha pins s σ H Q I h) fun c s1 e=>?_)
  cases c with
  | false=>exact isTrue_or_nil e
  | true=>exact e
theorem pw_and (ha:PT X a tA) (hb:PW X (.BoolOp .And (b :: rest) pos) tB'):PW X (.BoolOp .And (a :: b :: rest) pos) (tAnd tA tB'):=by
  intro wh pins s σ H Q I h
  refine isTrue_and (thn (ha pins s σ H _ I h) fun c s1 ⟨H1,I1,q1⟩=>?_)
  cases c with
  | true=>exact hb wh pins s1 σ H1 Q I1 q1
  | false=>exact ⟨H1,I1,q1⟩
theorem pw_or (ha:PT X a tA) (hb:PW X (.BoolOp .Or (b :: rest) pos) tB'):PW X (.BoolOp .Or (a :: b :: rest) pos) (tOr tA tB'):=by
  intro wh pins s σ H Q I h
  refine isTrue_or (thn (ha pins s σ H _ I h) fun c s1 ⟨H1,I1,q1⟩=>?_)
  cases c with
  | true=>exact ⟨H1,I1,q1⟩
  | false=>exact hb wh pins s1 σ H1 Q I1 q1
theorem pt_not (ha:PT X a tA):PT X (.UnaryOp .Not a pos) (tNot tA):=by
  intro pins s σ H Q I h
  exact isTrue_not (ha pins s σ H (fun c H1=>Q (!c) H1) I h)
def tAndV (ta tb:TE):TE:=fun σ H Q=>ta σ H fun x H1=>∃ c,x = .bl c∧if c = true then tb σ H1 Q else Q (.bl false) H1
theorem pe_one {op} {t:TE} (h:PE X a t):PE X (.BoolOp op [a] pos) t:=fun pins s σ H Q I hw=>BoolOp_one (h pins s σ H Q I hw)
theorem pe_and (ha:PE X a ta) (hb:PE X (.BoolOp .And (b :: rest) pos) tb):PE X (.BoolOp .And (a :: b :: rest) pos) (tAndV ta tb):=by
  intro pins s σ H Q I h
  refine BoolOp_and (thn (ha pins s σ H _ I h) fun v s1 ⟨x,H1,I1,r1,q1⟩=>?_)
  obtain ⟨c,rfl,q1⟩:=q1
  cases r1
  refine wpAny_truthy_bool ?_
  cases c with
  | true=>exact hb pins s1 σ H1 Q I1 q1
  | false=>exact ⟨.bl false,H1,I1,rfl,q1⟩
def tIf (t:TT) (ta tb:TE):TE:=fun σ H Q=>t σ H fun c H1=>if c = true then ta σ H1 Q else tb σ H1 Q
theorem pe_ifExp {c:Expr} (hc:PT X c tA) (ha:PE X a ta) (hb:PE X b tb):PE X (.IfExp c a b pos) (tIf tA ta tb):=by
  intro pins s σ H Q I h
  refine wpAny_IfExp (thn (hc pins s σ H _ I h) fun d s1 ⟨H1,I1,q1⟩=>?_)
  cases d with
  | true=>exact ha pins s1 σ H1 Q I1 q1
  | false=>exact hb pins s1 σ H1 Q I1 q1
end
def SqL (K:PySem.W.Frag) (H:Hp) (a:Addr) (xs:List V):Prop:=
  Rd H a (.lst xs) ∨
    ∃ (o:Obj) (its:Array Value) (n:Nat),K.lookup a = some o∧o.cls = .type "list"∧o.dict = none∧o.data = .seq its n∧its.size ≤ sizeLine∧Vals xs its.toList
def SqT (K:PySem.W.Frag) (H:Hp) (a:Addr) (xs:List V):Prop:=
  Rd H a (.tup xs) ∨
    ∃ (o:Obj) (its:Array Value) (n:Nat),K.lookup a = some o∧o.cls = .type "tuple"∧o.data = .seq its n∧its.size ≤ sizeLine∧Vals xs its.toList
def absV:Value→Option V
  | .none=>some .non
  | .bool b=>some (.bl b)
  | .int i _=>some (.int i)
  | .str x _=>some (.str x)
  | .bytes b _=>some (.byt b)
  | .float b _=>some (.flt b)
  | .ref a=>some (.ref a)
  | .type n=>some (.ty n)
  | _=>none
theorem RelV.abs {x:V} {u:Value} (r:RelV x u):absV u = some x:=by
  cases x with
  | non=>cases r; rfl
  | bl _=>cases r; rfl
  | int _=>obtain ⟨t,rfl⟩:=r; rfl
  | str _=>obtain ⟨t,rfl⟩:=r; rfl
  | byt _=>obtain ⟨t,rfl⟩:=r; rfl
  | flt _=>obtain ⟨t,rfl⟩:=r; rfl
  | ref _=>cases r; rfl
  | ty _=>cases r; rfl
theorem RelV.inj {x y:V} {u:Value} (r:RelV x u) (q:RelV y u):x = y:=Option.some.inj (r.abs.symm.trans q.abs)
theorem Vals.inj:∀ {xs ys:List V} {us:List Value},Vals xs us→Vals ys us→xs = ys
  | _,_,_,.nil,.nil=>rfl
  | _,_,_,.cons r t,.cons r' t'=>by rw [r.inj r',Vals.inj t t']
section
variable {X:Cx} {pins:List (Addr × Obj)} {σ:St} {H:Hp} {s:Shared} {a:Addr} {xs ys:List V}
theorem SqL.of {K:PySem.W.Frag} (h:H a = some (.lst xs)):SqL K H a xs:=.inl (.inl h)
theorem SqT.of {K:PySem.W.Frag} (h:H a = some (.tup xs)):SqT K H a xs:=.inl (.inl h)
theorem Inv.list (I:Inv X pins σ H s) (h:SqL X.K H a xs):∃ its:List Value,Vals xs its∧PlainL s.heap a its.toArray∧xs.length ≤ sizeLine:=by
  rcases h with h | ⟨o,its,n,hk,hc,hd,hs,hz,r⟩
  · obtain ⟨z,its,n,r,e⟩:=h.ok I.hok
    exact ⟨its,r,⟨_,n,e,rfl,rfl,rfl⟩,z⟩
  · refine ⟨its.toList,r,⟨o,n,I.kIn a o hk,hc,hd,by simpa using hs⟩,?_⟩
    have e:=r.length
    simp only [Array.length_toList] at e
    omega
theorem Inv.tuple (I:Inv X pins σ H s) (h:SqT X.K H a xs):∃ its:List Value,Vals xs its∧IsTup s.heap a its.toArray∧xs.length ≤ sizeLine:=by
  rcases h with h | ⟨o,its,n,hk,hc,hs,hz,r⟩
  · obtain ⟨z,its,r,p⟩:=h.ok I.hok
    exact ⟨its,r,p,z⟩
  · refine ⟨its.toList,r,⟨o,I.kIn a o hk,hc,n,by simpa using hs⟩,?_⟩
    have e:=r.length
    simp only [Array.length_toList] at e
    omega
theorem Inv.list_inj (I:Inv X pins σ H s) (h:SqL X.K H a xs) (h':SqL X.K H a ys):xs = ys:=by
  obtain ⟨its,r,⟨o,n,e,_,_,d⟩,_⟩:=I.list h
  obtain ⟨its',r',⟨o',n',e',_,_,d'⟩,_⟩:=I.list h'
  rw [e] at e'; cases e'
  rw [d] at d'
  injection d' with d1 _
  have:its = its':=by simpa using congrArg Array.toList d1
  subst this
  exact r.inj r'
end
abbrev Cx.wish (X:Cx) (E:Value→Shared→Prop):Cx:={ X with xe:=E }
abbrev Cx.nox (X:Cx):Cx:=X.wish fun _ _=>False
theorem Cx.Ok.wish {X:Cx} (ok:X.Ok) (E:Value→Shared→Prop):(X.wish E).Ok:=
  ⟨ok.mod,ok.kind,ok.glob,ok.blt,ok.above,ok.inj,ok.has,ok.cab,ok.hd,ok.frames,ok.stk,ok.exf,ok.bs,ok.bsz,ok.noex,ok.exfs,ok.funs,ok.frf⟩
theorem Cx.Ok.unwish {X:Cx} {E:Value→Shared→Prop} (ok:(X.wish E).Ok):X.Ok:=
  ⟨ok.mod,ok.kind,ok.glob,ok.blt,ok.above,ok.inj,ok.has,ok.cab,ok.hd,ok.frames,ok.stk,ok.exf,ok.bs,ok.bsz,ok.noex,ok.exfs,ok.funs,ok.frf⟩
section
variable {X:Cx} {pins:List (Addr × Obj)} {σ:St} {H:Hp} {s:Shared} {E:Value→Shared→Prop}
theorem Inv.wish (I:Inv X pins σ H s) (E:Value→Shared→Prop):Inv (X.wish E) pins σ H s:=⟨I.ok.wish E,I.os,I.bare,I.base,I.loc,I.cell,I.free,I.freeC,I.pin,I.hok,I.len⟩
theorem Inv.unwish (I:Inv (X.wish E) pins σ H s):Inv X pins σ H s:=⟨I.ok.unwish,I.os,I.bare,I.base,I.loc,I.cell,I.free,I.freeC,I.pin,I.hok,I.len⟩
theorem SP.unwish {D:Ends} {f:Flow} {s':Shared} (h:SP (X.wish E) pins D f s'):SP X pins D f s':=by
  cases f with
  | next=>obtain ⟨σ',H',I,q⟩:=h; exact ⟨σ',H',I.unwish,q⟩
  | brk=>obtain ⟨σ',H',I,q⟩:=h; exact ⟨σ',H',I.unwish,q⟩
  | cont=>obtain ⟨σ',H',I,q⟩:=h; exact ⟨σ',H',I.unwish,q⟩
  | ret u=>obtain ⟨v,σ',H',I,r,q⟩:=h; exact ⟨v,σ',H',I.unwish,r,q⟩
theorem PSs.nox {st:List Stmt} {t:TS} (h:PSs X.nox st t):PSs X st t:=fun pins s σ H D I hw=>
  wpAny_mono (h pins s σ H D (I.wish _) hw) (fun _ _ q=>q.unwish) fun _ _ z=>False.elim z
end
section
variable {X:Cx} {st:Stmt} {rest:List Stmt} {t u:TS} {e:Expr} {te:TE} {pos:Pos}
def tNext:TS:=fun D σ H=>D.nx σ H
def tSeq (t u:TS):TS:=fun D σ H=>t { D with nx:=u D } σ H
theorem pss_nil:PSs X [] tNext:=fun _ _ σ H _ I h=>wpAny_execs_nil ⟨σ,H,I,h⟩
theorem pss_cons (h1:PS X st t) (h2:PSs X rest u):PSs X (st :: rest) (tSeq t u):=by
  intro pins s σ H D I h
  refine wpAny_execs_cons (thn (h1 pins s σ H { D with nx:=u D } I h) fun f s1 q=>?_)
  cases f with
  | next=>
    obtain ⟨σ',H',I',q⟩:=q
    exact h2 pins s1 σ' H' D I' q
  | ret v=>exact q
  | brk=>exact q
  | cont=>exact q
theorem pss_one (h1:PS X st t):PSs X [st] t:=by
  intro pins s σ H D I h
  refine wpAny_execs_cons (thn (h1 pins s σ H D I h) fun f s1 q=>?_)
  cases f with
  | next=>exact wpAny_execs_nil q
  | ret v=>exact q
  | brk=>exact q
  | cont=>exact q
theorem Inv.quiet {pins:List (Addr × Obj)} {σ:St} {H:Hp} {s:Shared} (I:Inv X pins σ H s):interactive X.env = false:=by simp [interactive,I.ok.kind]
def tDrop (te:TE):TS:=fun D σ H=>te σ H fun _ H1=>D.nx σ H1
theorem ps_expr (he:PE X e te) (hs:swapsWith e none pos.line X.env = pure false:=by rfl):PS X (.Expr e pos) (tDrop te):=by
  intro pins s σ H D I h
  exact wpAny_Expr_any (thn (he pins s σ H _ I h) fun v s1 ⟨x,H1,I1,r1,q1⟩=>⟨σ,H1,I1,q1⟩) I.quiet hs
def tRet (te:TE):TS:=fun D σ H=>te σ H D.rt
theorem ps_ret (he:PE X e te):PS X (.Return (some e) pos) (tRet te):=by
  intro pins s σ H D I h
  exact wpAny_Return_some (thn (he pins s σ H _ I h) fun v s1 ⟨x,H1,I1,r1,q1⟩=>⟨x,σ,H1,I1,r1,q1⟩)
def tIfS (c:TT) (t u:TS):TS:=fun D σ H=>c σ H fun b H1=>if b = true then t D σ H1 else u D σ H1
theorem ps_if {c:Expr} {a b:List Stmt} {tc:TT} (hc:PT X c tc) (ha:PSs X a t) (hb:PSs X b u):PS X (.If c a b pos) (tIfS tc t u):=by
  intro pins s σ H D I h
  refine wpAny_If (thn (hc pins s σ H _ I h) fun d s1 ⟨H1,I1,q1⟩=>?_)
  cases d with
  | true=>exact ha pins s1 σ H1 D I1 q1
  | false=>exact hb pins s1 σ H1 D I1 q1
end
abbrev TG:=V→St→Hp→(St→Hp→Prop)→Prop
abbrev TGs:=List V→St→Hp→(St→Hp→Prop)→Prop
def PG (X:Cx) (target:Expr) (t:TG):Prop:=
  ∀ (pins:List (Addr × Obj)) (s:Shared) (σ:St) (H:Hp) (v:V) (u:Value) (Q:St→Hp→Prop),Inv X pins σ H s→RelV v u→t v σ H Q→
    wpAny (model X.prog X.w) X.A (assign target X.env u) (fun _ s'=>∃ σ' H',Inv X pins σ' H' s'∧Q σ' H') X.xe s
def PGs (X:Cx) (ts:List Expr) (t:TGs):Prop:=
  ∀ (pins:List (Addr × Obj)) (s:Shared) (σ:St) (H:Hp) (vs:List V) (us:List Value) (Q:St→Hp→Prop),Inv X pins σ H s→Vals vs us→t vs σ H Q→
    wpAny (model X.prog X.w) X.A (assignInOrder ((assignEach ts X.env).map (·.2)) us) (fun _ s'=>∃ σ' H',Inv X pins σ' H' s'∧Q σ' H') X.xe s
section
variable {X:Cx} {pos:Pos}
def gName (i:Nat):TG:=fun v σ H Q=>Q (σ.set i (some v)) H
theorem pg_name {i:Nat} {x:Str} (hN:X.N.Nodup) (hi:X.N[i]? = some x) (hx:Loc X.env.scope x) (hf:X.fn x = true ∨ X.env.scope.names.lookup x = some .local:=by first | exact .inl rfl | exact .inr rfl | assumption):PG X (.Name x pos) (gName i):=by
  intro pins s σ H v u Q I r h
  exact wpAny_assign_Name (store_ok I hN hi hx r (fun s' I'=>⟨_,H,I',h⟩) hf)
def gNil:TGs:=fun vs σ H Q=>vs = []∧Q σ H
def gCons (t:TG) (u:TGs):TGs:=fun vs σ H Q=>∃ v r,vs = v :: r∧t v σ H fun σ' H'=>u r σ' H' Q
theorem pgs_nil:PGs X [] gNil:=by
  intro pins s σ H vs us Q I r h
  obtain ⟨e,h⟩:=h
  subst e
  cases r
  exact assignInOrder_nil ⟨σ,H,I,h⟩
theorem pgs_cons {e:Expr} {es:List Expr} {t:TG} {u:TGs} (h1:PG X e t) (h2:PGs X es u)
    (hs:(assignEach (e :: es) X.env).map (·.2) = assign e X.env :: (assignEach es X.env).map (·.2):=by rfl):PGs X (e :: es) (gCons t u):=by
  intro pins s σ H vs us Q I r h
  obtain ⟨v,vr,e1,h⟩:=h
  subst e1
  cases r with
  | cons r rr=>
    rw [hs]
    refine assignInOrder_cons (thn (h1 pins s σ H _ _ _ I r h) fun _ s1 ⟨σ1,H1,I1,q1⟩=>?_)
    exact h2 pins s1 σ1 H1 _ _ Q I1 rr q1
def gTup (K:PySem.W.Frag) (n:Nat) (t:TGs):TG:=fun v σ H Q=>∃ a xs,v = .ref a∧SqT K H a xs∧xs.length = n∧t xs σ H Q
theorem pg_tup {es:List Expr} {k:Nat} {t:TGs} {n:Nat} (hc:X.calm = true) (h:PGs X es t)
    (hn:(assignEach es X.env).length = n:=by rfl) (hst:(assignEach es X.env).findIdx? (·.1) = none:=by rfl):PG X (.Tuple es k pos) (gTup X.K n t):=by
  intro pins s σ H v u Q I r hw
  obtain ⟨a,xs,e1,hq,hl,hw⟩:=hw
  subst e1
  cases r
  obtain ⟨its,rv,ht,hz⟩:=I.tuple hq
  refine assign_Tuple_tuple (I.ok.hd hc) ht (by simp [hn,← hl,rv.length]) hst fun h' hx=>?_
  have I1:Inv X pins σ H { s with heap:=h' }:=I.kept (t':=s.toks) fun b o e=>hx b o (Nat.ne_of_lt (Heap.lt_size e)) e
  exact h pins _ σ H xs _ Q I1 (by simpa using rv) hw
def tAsg (te:TE) (g:TG):TS:=fun D σ H=>te σ H fun x H1=>g x σ H1 D.nx
theorem ps_set {i:Nat} {x:Str} {e:Expr} {te:TE} {pos':Pos} (hN:X.N.Nodup) (hi:X.N[i]? = some x) (hx:Loc X.env.scope x) (he:PE X e te) (hs:swapsWith e (some (.Name x pos')) pos.line X.env = pure false:=by rfl) (hf:X.fn x = true ∨ X.env.scope.names.lookup x = some .local:=by first | exact .inl rfl | exact .inr rfl | assumption) :
    PS X (.Assign [.Name x pos'] e pos) (tAsg te (gName i)):=by
  intro pins s σ H D I h
  refine wpAny_Assign_Name (thn (he pins s σ H _ I h) fun v s1 ⟨y,H1,I1,r1,q1⟩=>?_) hs
  exact store_ok I1 hN hi hx r1 (fun s2 I2=>⟨_,H1,I2,q1⟩) hf
end
section
variable {X:Cx} {pos:Pos}
def tWhile (c:TT) (tb:TS):TS:=fun D σ H=>∃ W:Nat→St→Hp→Prop,(∃ m,W m σ H)∧∀ m σ H,W m σ H→
  c σ H fun b H1=>if b = true then ∃ N:St→Hp→Prop,(∀ σ' H',N σ' H'→∃ m',m' < m∧W m' σ' H')∧tb { D with nx:=N,ct:=N,bk:=D.nx } σ H1 else D.nx σ H1
theorem ps_while {c:Expr} {body:List Stmt} {tc:TT} {tb:TS} (hp:PassesOwn (model X.prog X.w) X.A X.env X.xe) (hc:PT X c tc) (hb:PSs X body tb):PS X (.While c body [] pos) (tWhile tc tb):=by
  intro pins s σ H D I h
  obtain ⟨W,⟨m0,w0⟩,turn⟩:=h
  refine wpAny_While (codeAny_whileLoop (fun n s'=>∃ σ' H',Inv X pins σ' H' s'∧W n σ' H') ?_ m0 ⟨σ,H,I,w0⟩)
  rintro n s1 ⟨σ1,H1,I1,w1⟩
  refine wpAny_passesOwn hp (thn (hc pins s1 σ1 H1 _ I1 (turn n σ1 H1 w1)) fun b s2 ⟨H2,I2,q2⟩=>?_)
  cases b with
  | true=>
    obtain ⟨N,hN,q2⟩:=q2
    rw [if_pos rfl]
    refine wpAny_passesOwn hp (thn (hb pins s2 σ1 H2 _ I2 q2) fun f s3 q3=>?_)
    cases f with
    | next=>
      obtain ⟨σ3,H3,I3,n3⟩:=q3
      obtain ⟨m',hm,w3⟩:=hN σ3 H3 n3
      exact ⟨m',hm,σ3,H3,I3,w3⟩
    | cont=>
      obtain ⟨σ3,H3,I3,n3⟩:=q3
      obtain ⟨m',hm,w3⟩:=hN σ3 H3 n3
      exact ⟨m',hm,σ3,H3,I3,w3⟩
    | brk=>exact q3
    | ret v=>exact q3
  | false=>
    rw [if_neg Bool.false_ne_true]
    exact wpAny_execs_nil ⟨σ1,H2,I2,q2⟩
end
structure It where
  go:Nat→Hp→Prop
  yld:Nat→Hp→V→Hp→Prop
  stop:Nat→Hp→Prop
def FpOk (X:Cx) (pins:List (Addr × Obj)) (H:Hp) (b:Addr):Prop:=
  H b = none∧b ≠ X.env.locals∧b ∉ X.fs∧(b ∈ X.ex ∨ X.s₀.heap.objs.size ≤ b)∧(∀ x c,X.env.cells.lookup x = some c→c ≠ b)∧∀ p ∈ X.pn ++ pins,p.1 ≠ b
theorem Inv.fpOk {X:Cx} {pins:List (Addr × Obj)} {σ:St} {H H':Hp} {s:Shared} {b:Addr} (I:Inv X pins σ H s) (hb:s.heap.objs.size ≤ b) (hn:H' b = none):FpOk X pins H' b:=by
  refine ⟨hn,Nat.ne_of_gt (Nat.lt_of_lt_of_le I.lt hb),I.nofs hb,.inr (Nat.le_trans I.sz hb),fun x c e z=>?_,fun p hp z=>?_⟩
  · obtain ⟨v,q⟩:=I.cell x c e
    exact absurd (Nat.lt_of_lt_of_le q.lt (by rw [z]; exact hb)) (Nat.lt_irrefl _)
  · exact absurd (Nat.lt_of_lt_of_le (Heap.lt_size (I.pin p hp).1) (by rw [z]; exact hb)) (Nat.lt_irrefl _)
structure Turn (P:Program) (w:World) (K:PySem.W.Frag) (tg:Expr) (J:It) (fp:List Addr) (it:Addr) (tn:Nat→Heap→Prop):Prop where
  mem:it ∈ fp
  obj:∀ i h,tn i h→∀ b ∈ fp,∃ o,h.get? b = some o∧∀ v,o.data ≠ .cell v
  keep:∀ i h h',tn i h→(∀ b ∈ fp,∀ o,h.get? b = some o→h'.get? b = some o)→tn i h'
  item:∀ (X:Cx),X.prog = P→X.w = w→X.K = K→X.calm = true→∀ (i:Nat) (pins:List (Addr × Obj)) (s:Shared) (σ:St) (H:Hp) (E:Value→Shared→Prop),Inv X pins σ H s→(∀ b ∈ fp,FpOk X pins H b)→tn i s.heap→J.go i H→
    wpAny (model P w) X.A (pyNext (.ref it)) (fun r s1=>∃ u,r = some u∧
      wpAny (model P w) X.A (letOwnedTupleGo tg (.ref it) u) (fun _ s2=>∃ x H',Inv X pins σ H' s2∧RelV x u∧J.yld i H x H'∧tn (i + 1) s2.heap∧∀ b ∈ fp,H' b = none) E s1) E s
  done:∀ (X:Cx),X.prog = P→X.w = w→X.K = K→X.calm = true→∀ (i:Nat) (pins:List (Addr × Obj)) (s:Shared) (σ:St) (H:Hp) (E:Value→Shared→Prop),Inv X pins σ H s→(∀ b ∈ fp,FpOk X pins H b)→tn i s.heap→J.stop i H→
    wpAny (model P w) X.A (pyNext (.ref it)) (fun r s1=>r = none∧Inv X pins σ H s1) E s
  self:∀ (A:Around) (i:Nat) (s:Shared) (Q:Value→Shared→Prop) (E:Value→Shared→Prop),tn i s.heap→Q (.ref it) s→wpAny (model P w) A (pyIter (.ref it)) Q E s
abbrev TI:=St→Hp→(It→Hp→Prop)→Prop
def PIE (X:Cx) (pins:List (Addr × Obj)) (σ:St) (tg:Expr) (R:It→Hp→Prop) (itv:Value) (s2:Shared):Prop:=
  ∃ (it:Addr) (fp:List Addr) (tn:Nat→Heap→Prop) (J:It) (H':Hp),itv = .ref it∧Inv X pins σ H' s2∧Turn X.prog X.w X.K tg J fp it tn∧tn 0 s2.heap∧(∀ b ∈ fp,FpOk X pins H' b)∧R J H'
def PI (X:Cx) (tg iter:Expr) (wi:TI):Prop:=
  ∀ (pins:List (Addr × Obj)) (s:Shared) (σ:St) (H:Hp) (R:It→Hp→Prop),Inv X pins σ H s→wi σ H R→
    wpAny (model X.prog X.w) X.A (eval iter X.env) (fun v s1=>wpAny (model X.prog X.w) X.A (pyIter v) (PIE X pins σ tg R) X.xe s1) X.xe s
theorem go_of {M:Model} {A:Around} {E:Value→Shared→Prop} {s:Shared} {tg:Expr} {it:Addr} {u:Value} {o:Obj} {n:String} {vs:Array Value} {Q:Unit→Shared→Prop} (ho:s.heap.get? it = some o) (hc:o.cls = .type n) (hd:o.data = .fields vs)
    (hn : ["enumerate", "zip", "dict_itemiterator", "dict_reverseitemiterator", "odict_iterator", "itertools.zip_longest", "itertools.pairwise"].contains n = false) (hQ : Q () s) : wpAny M A (letOwnedTupleGo tg (.ref it) u) Q E s := by
  unfold letOwnedTupleGo
  cases tg <;> first
    | exact wpAny_pure hQ
    | (cases u <;> first
        | exact wpAny_pure hQ
        | (refine wpAny_bind (wpAny_load ho ?_)
           rw [hc,hd]
           show wpAny M A (if (["enumerate", "zip", "dict_itemiterator", "dict_reverseitemiterator", "odict_iterator", "itertools.zip_longest", "itertools.pairwise"].contains n && vs[0]? == some (rawInt _)) = true then _ else _) Q E s
           rw [if_neg (by intro h; rw [hn,Bool.false_and] at h; cases h)]
           exact wpAny_pure hQ))
def Itl (K:PySem.W.Frag) (a:Addr):It:=
  ⟨fun i H=>∃ xs x,SqL K H a xs∧xs[i]? = some x,fun i H x H'=>H' = H∧∀ xs,SqL K H a xs→xs[i]? = some x,fun i H=>∃ xs,SqL K H a xs∧xs.length ≤ i⟩
def Itr (lo:Int) (n:Nat):It:=⟨fun i _=>i < n,fun i H x H'=>H' = H∧x = .int (lo + i),fun i _=>n ≤ i⟩
theorem turn_list {P:Program} {w:World} {K:PySem.W.Frag} {tg:Expr} (a it:Addr):Turn P w K tg (Itl K a) [it] it (fun i h=>h.IsListIter it a i) where
  mem:=by simp
  obj:=fun i h st b hb=>by
    have e:b = it:=by simpa using hb
    subst e
    obtain ⟨o,e,c,d⟩:=st
    exact ⟨o,e,fun v z=>by rw [d] at z; cases z⟩
  keep:=fun i h h' st k=>st.at fun o e=>k it (by simp) o e
  item:=by
    intro X hP hw hK hc i pins s σ H E I hf st hg
    subst hP hw hK
    obtain ⟨xs,x,hq,hx⟩:=hg
    obtain ⟨its,rv,p,hz⟩:=I.list hq
    obtain ⟨u,hu,ru⟩:=rv.get hx
    obtain ⟨f0,f1,f2,f3,f4,f5⟩:=hf it (by simp)
    refine wpAny_pyNext_list_item st p.isList (x:=u) (by simpa using hu) fun h' st' sb=>?_
    have I1:Inv X pins σ H { s with heap:=h' }:=I.turned (t':=s.toks) (fun b o hb e=>(sb.2 b hb).trans e) f0 f1 f3 f4 f5
    obtain ⟨o,e,c,d⟩:=id st'
    exact ⟨u,rfl,go_of (s:={ s with heap:=h' }) e c d (by decide) ⟨x,H,I1,ru,⟨rfl,fun ys hy=>by rw [I.list_inj hy hq]; exact hx⟩,st',fun b hb=>(hf b hb).1⟩⟩
  done:=by
    intro X hP hw hK hc i pins s σ H E I hf st hg
    subst hP hw hK
    obtain ⟨xs,hq,hx⟩:=hg
    obtain ⟨its,rv,p,hz⟩:=I.list hq
    obtain ⟨f0,f1,f2,f3,f4,f5⟩:=hf it (by simp)
    have hl:=rv.length
    exact wpAny_pyNext_list_end (I.ok.hd hc) st p.isList (by simp; omega) fun h' eb=>⟨rfl,I.turned (t':=s.toks) (fun b o hb e=>eb b o hb e) f0 f1 f3 f4 f5⟩
  self:=fun _ _ _ _ _ st h=>wpAny_pyIter_listiter st h
theorem turn_range {P:Program} {w:World} {K:PySem.W.Frag} {tg:Expr} (it:Addr) (lo:Int) (n:Nat):Turn P w K tg (Itr lo n) [it] it (fun i h=>IsRangeIter h it (lo + (i:Nat) * 1) ((n:Int) - (i:Nat)) 1) where
  mem:=by simp
  obj:=fun i h st b hb=>by
    have e:b = it:=by simpa using hb
    subst e
    exact ⟨_,st,fun v z=>by
      have z':Data.fields _ = Data.cell v:=z
      cases z'⟩
  keep:=fun i h h' st k=>k it (by simp) _ st
  item:=by
    intro X hP hw hK hc i pins s σ H E I hf st hg
    subst hP hw hK
    obtain ⟨f0,f1,f2,f3,f4,f5⟩:=hf it (by simp)
    have W:=Walks.range (prog:=X.prog) (w:=X.w) (I.ok.hd hc) it lo 1 n
    refine W.item i s _ _ hg st fun v h' tk hv st' kk=>?_
    obtain ⟨t,rfl⟩:=hv
    have I1:Inv X pins σ H { s with heap:=h',toks:=tk }:=I.turned (fun b o hb e=>kk b o (by simpa using hb) e) f0 f1 f3 f4 f5
    refine ⟨_,rfl,go_of (s:={ s with heap:=h',toks:=tk }) (n:="range_iterator") st' rfl rfl (by decide) ⟨.int (lo + i),H,I1,⟨t,?_⟩,⟨rfl,rfl⟩,st',fun b hb=>(hf b hb).1⟩⟩
    rw [Int.mul_one]
  done:=by
    intro X hP hw hK hc i pins s σ H E I hf st hg
    subst hP hw hK
    obtain ⟨f0,f1,f2,f3,f4,f5⟩:=hf it (by simp)
    exact wpAny_pyNext_range_end (I.ok.hd hc) st (by have:n ≤ i:=hg; omega) fun h' eb=>⟨rfl,I.turned (t':=s.toks) (fun b o hb e=>eb b o hb e) f0 f1 f3 f4 f5⟩
  self:=fun _ _ _ _ _ st h=>wpAny_pyIter_rangeiter st h
section
variable {X:Cx} {tg:Expr}
def iList (K:PySem.W.Frag) (tl:TE):TI:=fun σ H R=>tl σ H fun x H1=>∃ a,x = .ref a∧(∃ xs,SqL K H1 a xs)∧R (Itl K a) H1
theorem pi_list {l:Expr} {tl:TE} (hl:PE X l tl):PI X tg l (iList X.K tl):=by
  intro pins s σ H R I h
  refine thn (hl pins s σ H _ I h) fun v s1 ⟨x,H1,I1,r1,q1⟩=>?_
  obtain ⟨a,e,⟨xs,hq⟩,q⟩:=q1
  subst e
  cases r1
  obtain ⟨its,rv,p,hz⟩:=I1.list hq
  refine wpAny_pyIter_list p.isList ?_
  refine ⟨s1.heap.objs.size,[s1.heap.objs.size],_,_,H1,rfl,I1.kept (t':=s1.toks) fun b o e=>Heap.get?_push_of_some _ e,turn_list a _,⟨_,Heap.get?_push_size _ rfl,rfl,rfl⟩,fun b hb=>?_,q⟩
  have e:b = s1.heap.objs.size:=by simpa using hb
  subst e
  exact I1.fpOk (Nat.le_refl _) (I1.hok.fresh (Nat.le_refl _))
theorem range_it {pins:List (Addr × Obj)} {σ:St} {H:Hp} {s:Shared} {R:It→Hp→Prop} {E:Value→Shared→Prop} {lo hi:Int} {t u v:Tok} {tk:Nat} (I:Inv X pins σ H s) (h1:-(2 ^ 62) ≤ lo) (h2:lo < 2 ^ 62) (h3:-(2 ^ 62) ≤ hi) (h4:hi < 2 ^ 62)
    (q:R (Itr lo (hi - lo).toNat) H):wpAny (model X.prog X.w) X.A (pyIter (.ref s.heap.objs.size)) (PIE X pins σ tg R) E { s with heap:=s.heap.push { cls:=.type "range",data:=.fields #[.int lo t,.int hi u,.int 1 v] },toks:=tk }:=by
  refine wpAny_pyIter_range (IsRange.new ..) (small_one h1 h2 h3 h4) ?_
  have I1:Inv X pins σ H { s with heap:=s.heap.push { cls:=.type "range",data:=.fields #[.int lo t,.int hi u,.int 1 v] },toks:=tk }:=I.kept fun b o e=>Heap.get?_push_of_some _ e
  refine ⟨(s.heap.push { cls := .type "range", data := .fields #[.int lo t, .int hi u, .int 1 v] }).objs.size, [(s.heap.push { cls := .type "range", data := .fields #[.int lo t, .int hi u, .int 1 v] }).objs.size], _, _, H, rfl,
    I1.kept (t':=tk) fun b o e=>Heap.get?_push_of_some _ e,turn_range _ lo (hi - lo).toNat,?_,fun b hb=>?_,q⟩
  · have e1:lo + ((0:Nat):Int) * 1 = lo:=by simp
    have e2:(((hi - lo).toNat:Nat):Int) - ((0:Nat):Int) = Builtin.Range.rangeSize lo hi 1:=by rw [rangeSize_one]; split <;> omega
    show IsRangeIter _ _ (lo + ((0:Nat):Int) * 1) ((((hi - lo).toNat:Nat):Int) - ((0:Nat):Int)) 1
    rw [e1,e2]
    exact Heap.get?_push_size _ rfl
  · have e:b = (s.heap.push { cls:=.type "range",data:=.fields #[.int lo t,.int hi u,.int 1 v] }).objs.size:=by simpa using hb
    subst e
    exact I1.fpOk (Nat.le_refl _) (I1.hok.fresh (Nat.le_refl _))
def iRng1 (ta:TA):TI:=fun σ H R=>ta σ H fun vs H1=>∃ j:Int,vs = [.int j]∧-(2 ^ 62) ≤ j∧j < 2 ^ 62∧R (Itr 0 j.toNat) H1
def iRng2 (ta:TA):TI:=fun σ H R=>ta σ H fun vs H1=>∃ i j:Int,vs = [.int i,.int j]∧(-(2 ^ 62) ≤ i∧i < 2 ^ 62∧-(2 ^ 62) ≤ j∧j < 2 ^ 62)∧R (Itr i (j - i).toNat) H1
theorem pi_range1 {a : Expr} {ta : TA} {p pos : Pos} (hg : Gl X "range") (hm : X.mg "range" = none) (ha : PA X [a] ta) (hs : starEach [a] X.env = [(false, eval a X.env)] := by rfl) : PI X tg (.Call (.Name "range" p) [a] [] pos) (iRng1 ta) := by
  intro pins s σ H R I h
  refine Call_ (ld_blt I hg hm boot_range (PyProof.Rows.callWith_type1 (thn (ha pos pins s σ H _ I h) fun us s1 ⟨vs,H1,I1,r1,q1⟩=>?_) hs rfl))
  obtain ⟨j,e,q1,q2,q⟩:=q1
  subst e
  cases r1 with
  | cons r rr=>
    cases rr
    obtain ⟨t,rfl⟩:=r
    exact call_range_1 (range_it I1 (by omega) (by omega) q1 q2 (by simpa using q))
theorem pi_range2 {a b : Expr} {ta : TA} {p pos : Pos} (hg : Gl X "range") (hm : X.mg "range" = none) (ha : PA X [a, b] ta) (hs : starEach [a, b] X.env = [(false, eval a X.env), (false, eval b X.env)] := by rfl) (hs2 : starEach [b] X.env = [(false, eval b X.env)] := by rfl) :
    PI X tg (.Call (.Name "range" p) [a,b] [] pos) (iRng2 ta):=by
  intro pins s σ H R I h
  refine Call_ (ld_blt I hg hm boot_range (PyProof.Rows.callWith_type1 (thn (ha pos pins s σ H _ I h) fun us s1 ⟨vs,H1,I1,r1,q1⟩=>?_) (by rw [hs,hs2]) (by rw [hs2]; rfl)))
  obtain ⟨i,j,e,⟨q1,q2,q3,q4⟩,q⟩:=q1
  subst e
  cases r1 with
  | cons r rr=>
    cases rr with
    | cons r' rr=>
      cases rr
      obtain ⟨t,rfl⟩:=r
      obtain ⟨t',rfl⟩:=r'
      exact call_range_2 (range_it I1 q1 q2 q3 q4 q)
def tFor (wi:TI) (g:TG) (tb:TS):TS:=fun D σ H=>wi σ H fun J H1=>∃ W:Nat→Nat→St→Hp→Prop,(∃ m,W 0 m σ H1)∧∀ i m σ H,W i m σ H→
  (J.stop i H∧D.nx σ H) ∨ (J.go i H∧∃ N:St→Hp→Prop,(∀ σ' H',N σ' H'→∃ m',m' < m∧W (i + 1) m' σ' H')∧∀ x H',J.yld i H x H'→g x σ H' fun σ2 H2=>tb { D with nx:=N,ct:=N,bk:=D.nx } σ2 H2)
def pinsAt (fp:List Addr) (h:Heap):List (Addr × Obj):=fp.filterMap fun b=>(h.get? b).map fun o=>(b,o)
theorem mem_pinsAt {fp:List Addr} {h:Heap} {b:Addr} {o:Obj} (hb:b ∈ fp) (e:h.get? b = some o):(b,o) ∈ pinsAt fp h:=List.mem_filterMap.mpr ⟨b,hb,by rw [e]; rfl⟩
theorem of_pinsAt {fp:List Addr} {h:Heap} {p:Addr × Obj} (hp:p ∈ pinsAt fp h):p.1 ∈ fp∧h.get? p.1 = some p.2:=by
  obtain ⟨b,hb,e⟩:=List.mem_filterMap.mp hp
  cases q:h.get? b with
  | none=>rw [q] at e; cases e
  | some o=>
    rw [q] at e
    have e':(b,o) = p:=Option.some.inj e
    subst e'
    exact ⟨hb,q⟩
theorem Inv.pinned {pins:List (Addr × Obj)} {σ:St} {H:Hp} {s:Shared} {fp:List Addr} (I:Inv X pins σ H s) (hf:∀ b ∈ fp,FpOk X pins H b) (ho:∀ b ∈ fp,∃ o,s.heap.get? b = some o∧∀ v,o.data ≠ .cell v):Inv X (pins ++ pinsAt fp s.heap) σ H s:=
  I.pins_of fun p hp=>(List.mem_append.mp hp).elim (fun z=>I.pin p (List.mem_append_right _ z)) fun z=>by
    obtain ⟨hb,e⟩:=of_pinsAt z
    obtain ⟨f0,f1,f2,_⟩:=hf p.1 hb
    obtain ⟨o,e',d⟩:=ho p.1 hb
    rw [e] at e'; cases e'
    exact ⟨e,f0,f1,f2,d⟩
theorem Inv.unpinned {pins pl:List (Addr × Obj)} {σ:St} {H:Hp} {s:Shared} (I:Inv X (pins ++ pl) σ H s):Inv X pins σ H s:=I.pins_of fun p hp=>I.pin p (List.mem_append_right _ (List.mem_append_left _ hp))
theorem ps_for {iter:Expr} {body:List Stmt} {wi:TI} {g:TG} {tb:TS} {pos:Pos} (hp:PassesOwn (model X.prog X.w) X.A X.env X.xe) (hc:X.calm = true) (hi:PI X tg iter wi) (hg:PG X tg g) (hb:PSs X body tb)
    (hs:∀ x,foldedSetIterable iter X.env x = pure x:=by intro _; rfl):PS X (.For tg iter body [] pos) (tFor wi g tb):=by
  intro pins s σ H D I h
  refine wpAny_For (thn (hi pins s σ H _ I h) fun v s1 h1=>thn h1 fun itv s2 h2=>?_) hs
  obtain ⟨it,fp,tn,J,H2,e,I2,T,st2,f2,W,⟨m0,w0⟩,turn⟩:=h2
  subst e
  -- what stays true of the iterator's objects through the loop
  have stat:∀ {H':Hp},(∀ b ∈ fp,H' b = none)→∀ b ∈ fp,FpOk X pins H' b:=fun hn b hb=>⟨hn b hb,(f2 b hb).2⟩
  refine codeAny_forLoop_any (fun n s'=>∃ i σ' H',Inv X pins σ' H' s'∧tn i s'.heap∧(∀ b ∈ fp,H' b = none)∧W i n σ' H') ?_ m0 ⟨0,σ,H2,I2,st2,fun b hb=>(f2 b hb).1,w0⟩
  rintro n s3 ⟨i,σ3,H3,I3,st3,fr3,w3⟩
  rcases turn i n σ3 H3 w3 with ⟨stop,qn⟩ | ⟨go,N,hN,step⟩
  · refine wpAny_passesOwn hp (thn (T.done X rfl rfl rfl hc i pins s3 σ3 H3 X.xe I3 (stat fr3) st3 stop) fun r s4 ⟨hr,I4⟩=>?_)
    subst hr
    exact wpAny_execs_nil ⟨σ3,H3,I4,qn⟩
  · refine wpAny_passesOwn hp (thn (T.item X rfl rfl rfl hc i pins s3 σ3 H3 X.xe I3 (stat fr3) st3 go) fun r s4 ⟨u,hr,h4⟩=>?_)
    subst hr
    refine wpAny_passesOwn hp (thn h4 fun _ s5 ⟨x,H5,I5,r5,y5,st5,fr5⟩=>?_)
    have I5':=I5.pinned (stat fr5) (T.obj _ _ st5)
    refine wpAny_passesOwn hp (thn (hg _ s5 σ3 H5 x u _ I5' r5 (step x H5 y5)) fun _ s6 ⟨σ6,H6,I6,q6⟩=>?_)
    refine wpAny_passesOwn hp (thn (hb _ s6 σ6 H6 _ I6 q6) fun f s7 q7=>?_)
    have again:∀ {σ7:St} {H7:Hp},Inv X (pins ++ pinsAt fp s5.heap) σ7 H7 s7→N σ7 H7→∃ m,m < n∧∃ i σ' H',Inv X pins σ' H' s7∧tn i s7.heap∧(∀ b ∈ fp,H' b = none)∧W i m σ' H':=fun {σ7 H7} I7 n7=>by
      obtain ⟨m',hm,w7⟩:=hN σ7 H7 n7
      refine ⟨m',hm,i + 1,σ7,H7,I7.unpinned,T.keep _ _ _ st5 fun b hb o e=>(I7.pin (b,o) (List.mem_append_right _ (List.mem_append_right _ (mem_pinsAt hb e)))).1,fun b hb=>?_,w7⟩
      obtain ⟨o,e,d⟩:=T.obj _ _ st5 b hb
      exact (I7.pin (b,o) (List.mem_append_right _ (List.mem_append_right _ (mem_pinsAt hb e)))).2.1
    cases f with
    | next=>obtain ⟨σ7,H7,I7,n7⟩:=q7; exact again I7 n7
    | cont=>obtain ⟨σ7,H7,I7,n7⟩:=q7; exact again I7 n7
    | brk=>obtain ⟨σ7,H7,I7,q7⟩:=q7; exact ⟨σ7,H7,I7.unpinned,q7⟩
    | ret v=>obtain ⟨x7,σ7,H7,I7,r7,q7⟩:=q7; exact ⟨x7,σ7,H7,I7.unpinned,r7,q7⟩
end
theorem for_list {K:PySem.W.Frag} {a:Addr} {xs:List V} {g:TG} {tb:TS} {D:Ends} {σ:St} {H:Hp} (Pv:Nat→St→Hp→Prop) (h0:Pv 0 σ H) (hl:∀ i σ H,i ≤ xs.length→Pv i σ H→SqL K H a xs)
    (hs:∀ i x σ H,xs[i]? = some x→Pv i σ H→g x σ H fun σ2 H2=>tb { D with nx:=Pv (i + 1),ct:=Pv (i + 1),bk:=D.nx } σ2 H2) (hd:∀ σ H,Pv xs.length σ H→D.nx σ H) :
    ∃ W:Nat→Nat→St→Hp→Prop,(∃ m,W 0 m σ H)∧∀ i m σ H,W i m σ H→
      ((Itl K a).stop i H∧D.nx σ H) ∨ ((Itl K a).go i H∧∃ N:St→Hp→Prop,(∀ σ' H',N σ' H'→∃ m',m' < m∧W (i + 1) m' σ' H')∧∀ x H',(Itl K a).yld i H x H'→g x σ H' fun σ2 H2=>tb { D with nx:=N,ct:=N,bk:=D.nx } σ2 H2):=by
  refine ⟨fun i m σ H=>m = xs.length - i∧i ≤ xs.length∧Pv i σ H,⟨xs.length,by simp,Nat.zero_le _,h0⟩,?_⟩
  rintro i m σ H ⟨rfl,hi,p⟩
  have q:=hl i σ H hi p
  by_cases hlt:i < xs.length
  · refine .inr ⟨⟨xs,xs[i],q,by simp [hlt]⟩,Pv (i + 1),fun σ' H' p'=>⟨xs.length - (i + 1),by omega,rfl,hlt,p'⟩,fun x H' y=>?_⟩
    obtain ⟨e,y⟩:=y
    subst e
    exact hs i x σ _ (y xs q) p
  · have e:i = xs.length:=by omega
    subst e
    exact .inl ⟨⟨xs,q,Nat.le_refl _⟩,hd σ H p⟩
theorem for_range {lo:Int} {n:Nat} {g:TG} {tb:TS} {D:Ends} {σ:St} {H:Hp} (Pv:Nat→St→Hp→Prop) (h0:Pv 0 σ H)
    (hs:∀ i σ H,i < n→Pv i σ H→g (.int (lo + i)) σ H fun σ2 H2=>tb { D with nx:=Pv (i + 1),ct:=Pv (i + 1),bk:=D.nx } σ2 H2) (hd:∀ σ H,Pv n σ H→D.nx σ H) :
    ∃ W:Nat→Nat→St→Hp→Prop,(∃ m,W 0 m σ H)∧∀ i m σ H,W i m σ H→
      ((Itr lo n).stop i H∧D.nx σ H) ∨ ((Itr lo n).go i H∧∃ N:St→Hp→Prop,(∀ σ' H',N σ' H'→∃ m',m' < m∧W (i + 1) m' σ' H')∧∀ x H',(Itr lo n).yld i H x H'→g x σ H' fun σ2 H2=>tb { D with nx:=N,ct:=N,bk:=D.nx } σ2 H2):=by
  refine ⟨fun i m σ H=>m = n - i∧i ≤ n∧Pv i σ H,⟨n,by simp,Nat.zero_le _,h0⟩,?_⟩
  rintro i m σ H ⟨rfl,hi,p⟩
  by_cases hlt:i < n
  · refine .inr ⟨hlt,Pv (i + 1),fun σ' H' p'=>⟨n - (i + 1),by omega,rfl,hlt,p'⟩,fun x H' y=>?_⟩
    obtain ⟨e,y⟩:=y
    subst e y
    exact hs i σ _ hlt p
  · have e:i = n:=by omega
    subst e
    exact .inl ⟨Nat.le_refl _,hd σ H p⟩
abbrev R2:=V→V→Hp→VK→Prop
def OpR (X:Cx) (f:Value→Value→Sem Value) (r:R2):Prop:=
  ∀ (pins:List (Addr × Obj)) (s:Shared) (σ:St) (H:Hp) (x y:V) (v u:Value) (Q:VK),Inv X pins σ H s→RelV x v→RelV y u→r x y H Q→
    wpAny (model X.prog X.w) X.A (f v u) (EP X pins σ Q) X.xe s
def CallR (X:Cx) (f:Value) (r:List V→Hp→VK→Prop):Prop:=
  ∀ (pins:List (Addr × Obj)) (s:Shared) (σ:St) (H:Hp) (xs:List V) (us:List Value) (Q:VK),Inv X pins σ H s→Vals xs us→r xs H Q→
    wpAny (model X.prog X.w) X.A (call f us) (EP X pins σ Q) X.xe s
def tOp (r:R2) (ta tb:TE):TE:=fun σ H Q=>ta σ H fun x H1=>tb σ H1 fun y H2=>r x y H2 Q
def rI (C:Int→Int→Prop) (g:Int→Int→V):R2:=fun x y H Q=>∃ i j,x = .int i∧y = .int j∧C i j∧Q (g i j) H
def rI0 (g:Int→Int→V):R2:=fun x y H Q=>∃ i j,x = .int i∧y = .int j∧Q (g i j) H
section
variable {X:Cx} {a b c:Expr} {ta tb tc:TE} {pos:Pos}
theorem binT (ha:PE X a ta) (hb:PE X b tb) {pins:List (Addr × Obj)} {s:Shared} {σ:St} {H:Hp} {R:V→V→Hp→Prop} (I:Inv X pins σ H s)
    (h:ta σ H fun x H1=>tb σ H1 fun y H2=>R x y H2) {Q:Value→Shared→Prop} {f:Value→Value→Sem Value}
    (hf:∀ v u s2 x y H2,Inv X pins σ H2 s2→RelV x v→RelV y u→R x y H2→wpAny (model X.prog X.w) X.A (f v u) Q X.xe s2) :
    wpAny (model X.prog X.w) X.A (eval a X.env) (fun v s₁=>wpAny (model X.prog X.w) X.A (eval b X.env) (fun u s₂=>wpAny (model X.prog X.w) X.A (f v u) Q X.xe s₂) X.xe s₁) X.xe s:=by
  refine thn (ha pins s σ H _ I h) fun v s1 ⟨x,H1,I1,r1,q1⟩=>?_
  refine thn (hb pins s1 σ H1 _ I1 q1) fun u s2 ⟨y,H2,I2,r2,q2⟩=>?_
  exact hf v u s2 x y H2 I2 r1 r2 q2
theorem pe_op {op:Operator} {r:R2} (ho:OpR X (binaryOp op) r) (ha:PE X a ta) (hb:PE X b tb):PE X (.BinOp a op b pos) (tOp r ta tb):=by
  intro pins s σ H Q I h
  exact wpAny_BinOp (binT ha hb I h fun v u s2 x y H2 I2 rx ry q=>ho pins s2 σ H2 x y v u Q I2 rx ry q)
theorem opI {f:Value→Value→Sem Value} {C:Int→Int→Prop} {g:Int→Int→Int}
    (rule:∀ (i j:Int) (t u:Tok) (s:Shared) (Q:Value→Shared→Prop) (E:Value→Shared→Prop),C i j→Q (.int (g i j) s.toks) { s with toks:=s.toks + 1 }→wpAny (model X.prog X.w) X.A (f (.int i t) (.int j u)) Q E s) :
    OpR X f (rI C fun i j=>.int (g i j)):=by
  intro pins s σ H x y v u Q I rx ry h
  obtain ⟨i,j,rfl,rfl,hc,q⟩:=h
  obtain ⟨t,rfl⟩:=rx
  obtain ⟨t',rfl⟩:=ry
  exact rule i j t t' s _ _ hc ⟨.int (g i j),H,I.tok _,⟨_,rfl⟩,q⟩
theorem opI0 {f:Value→Value→Sem Value} {g:Int→Int→Int}
    (rule:∀ (i j:Int) (t u:Tok) (s:Shared) (Q:Value→Shared→Prop) (E:Value→Shared→Prop),Q (.int (g i j) s.toks) { s with toks:=s.toks + 1 }→wpAny (model X.prog X.w) X.A (f (.int i t) (.int j u)) Q E s) :
    OpR X f (rI0 fun i j=>.int (g i j)):=by
  intro pins s σ H x y v u Q I rx ry h
  obtain ⟨i,j,rfl,rfl,q⟩:=h
  obtain ⟨t,rfl⟩:=rx
  obtain ⟨t',rfl⟩:=ry
  exact rule i j t t' s _ _ ⟨.int (g i j),H,I.tok _,⟨_,rfl⟩,q⟩
theorem opB0 {f:Value→Value→Sem Value} {g:Int→Int→Bool}
    (rule:∀ (i j:Int) (t u:Tok) (s:Shared) (Q:Value→Shared→Prop) (E:Value→Shared→Prop),Q (.bool (g i j)) s→wpAny (model X.prog X.w) X.A (f (.int i t) (.int j u)) Q E s) :
    OpR X f (rI0 fun i j=>.bl (g i j)):=by
  intro pins s σ H x y v u Q I rx ry h
  obtain ⟨i,j,rfl,rfl,q⟩:=h
  obtain ⟨t,rfl⟩:=rx
  obtain ⟨t',rfl⟩:=ry
  exact rule i j t t' s _ _ ⟨.bl (g i j),H,I,rfl,q⟩
def CDiv (i j:Int):Prop:=0 < j∧j < 1073741824
def CMul (i j:Int):Prop:=(-(2 ^ 64) < i∧i < 2 ^ 64) ∨ (-(2 ^ 64) < j∧j < 2 ^ 64)
theorem CMul.ok {i j:Int} (h:CMul i j):IntMulOk i j:=by
  rcases h with ⟨h1,h2⟩ | ⟨h1,h2⟩
  · exact .of_left (intBits_le_64 h1 h2)
  · exact .of_right (intBits_le_64 h1 h2)
theorem two_pow_nn (k:Nat):(0:Int) ≤ 2 ^ k:=by
  rw [two_pow_cast]
  exact Int.natCast_nonneg _
theorem op_add:OpR X (binaryOp .Add) (rI0 fun i j=>.int (i + j)):=opI0 fun _ _ _ _ _ _ _ q=>add_int q
theorem op_sub:OpR X (binaryOp .Sub) (rI0 fun i j=>.int (i - j)):=opI0 fun _ _ _ _ _ _ _ q=>sub_int q
theorem op_fdiv:OpR X (binaryOp .FloorDiv) (rI CDiv fun i j=>.int (i / j)):=opI fun i j _ _ _ _ _ hc q=>by
  have h1:(0:Int) < j:=hc.1
  have h2:j < 1073741824:=hc.2
  exact floordiv_int (by omega) (by rw [Int.fdiv_eq_ediv_of_nonneg i (by omega)]; exact q) (.inl (PyProof.noPylong_small (by omega)))
theorem op_mod:OpR X (binaryOp .Mod) (rI (fun _ j=>0 < j) fun i j=>.int (i % j)):=opI fun i j _ _ _ _ _ hc q=>by
  have h1:(0:Int) < j:=hc
  exact mod_int' (by omega) (by rw [Int.fmod_eq_emod_of_nonneg i (by omega)]; exact q)
theorem op_shr:OpR X (binaryOp .RShift) (rI (fun _ j=>0 ≤ j) fun i j=>.int (i / 2 ^ j.toNat)):=opI fun i j _ _ _ _ _ hc q=>
  rshift_int hc (by rw [Int.fdiv_eq_ediv_of_nonneg i (two_pow_nn _)]; exact q)
end
def scal:V→V→Bool
  | .non,.non=>true | .non,.int _=>true | .int _,.non=>true | .non,.bl _=>true | .bl _,.non=>true | .non,.str _=>true | .str _,.non=>true
  | .int _,.int _=>true | .bl _,.bl _=>true | .str _,.str _=>true | .byt _,.byt _=>true
  | .int _,.str _=>true | .str _,.int _=>true | .bl _,.str _=>true | .str _,.bl _=>true
  | _,_=>false
def rEq:R2:=fun x y H Q=>scal x y = true∧Q (.bl (decide (x = y))) H
def rNe:R2:=fun x y H Q=>scal x y = true∧Q (.bl (!decide (x = y))) H
theorem dec_int {i j:Int}:decide (V.int i = V.int j) = (i == j):=by
  rw [Bool.eq_iff_iff]
  simp
theorem dec_bl {i j:Bool}:decide (V.bl i = V.bl j) = (i == j):=by
  rw [Bool.eq_iff_iff]
  simp
theorem dec_str {i j:Str}:decide (V.str i = V.str j) = (i == j):=by
  rw [Bool.eq_iff_iff]
  simp
theorem dec_byt {i j:Array UInt8}:decide (V.byt i = V.byt j) = (i.toList == j.toList):=by
  rw [Bool.eq_iff_iff]
  cases i
  cases j
  simp
section
variable {X:Cx} {a b c:Expr} {ta tb tc:TE} {pos:Pos}
theorem fin_bl {pins:List (Addr × Obj)} {σ:St} {H:Hp} {s:Shared} {Q:VK} {k k':Bool} (I:Inv X pins σ H s) (q:Q (.bl k) H) (e:k = k'):EP X pins σ Q (.bool k') s:=by
  subst e
  exact ⟨.bl k,H,I,rfl,q⟩
theorem op_eq:OpR X (compareOp .Eq) rEq:=by
  intro pins s σ H x y v u Q I rx ry h
  obtain ⟨hs,q⟩:=h
  cases x with
  | non=>
    cases rx
    cases y with
    | non=>cases ry; exact PySem.EqNone.eq_none_none (fin_bl I q (by simp))
    | bl j=>cases ry; exact PySem.EqNone.eq_none_bool (fin_bl I q (by simp))
    | int j=>obtain ⟨t',rfl⟩:=ry; exact PySem.EqNone.eq_none_int (fin_bl I q (by simp))
    | str j=>obtain ⟨t',rfl⟩:=ry; exact PySem.EqNone.eq_none_str (fin_bl I q (by simp))
    | _=>exact absurd (show false = true from hs) Bool.false_ne_true
  | bl i=>
    cases rx
    cases y with
    | non=>cases ry; exact PySem.EqNone.eq_bool_none (fin_bl I q (by simp))
    | bl j=>cases ry; exact eq_bool (fin_bl I q dec_bl)
    | str j=>obtain ⟨t',rfl⟩:=ry; exact PySem.EqMixed.eq_bool_str (fin_bl I q (by simp))
    | _=>exact absurd (show false = true from hs) Bool.false_ne_true
  | int i=>
    obtain ⟨t,rfl⟩:=rx
    cases y with
    | non=>cases ry; exact PySem.EqNone.eq_int_none (fin_bl I q (by simp))
    | int j=>obtain ⟨t',rfl⟩:=ry; exact eq_int (fin_bl I q dec_int)
    | str j=>obtain ⟨t',rfl⟩:=ry; exact PySem.EqMixed.eq_int_str (fin_bl I q (by simp))
    | _=>exact absurd (show false = true from hs) Bool.false_ne_true
  | str i=>
    obtain ⟨t,rfl⟩:=rx
    cases y with
    | non=>cases ry; exact PySem.EqNone.eq_str_none (fin_bl I q (by simp))
    | bl j=>cases ry; exact PySem.EqMixed.eq_str_bool (fin_bl I q (by simp))
    | int j=>obtain ⟨t',rfl⟩:=ry; exact PySem.EqMixed.eq_str_int (fin_bl I q (by simp))
    | str j=>obtain ⟨t',rfl⟩:=ry; exact eq_str (fin_bl I q dec_str)
    | _=>exact absurd (show false = true from hs) Bool.false_ne_true
  | byt i=>
    obtain ⟨t,rfl⟩:=rx
    cases y with
    | byt j=>obtain ⟨t',rfl⟩:=ry; exact PySem.W.eq_bytes (fin_bl I q dec_byt)
    | _=>exact absurd (show false = true from hs) Bool.false_ne_true
  | _=>cases y <;> exact absurd (show false = true from hs) Bool.false_ne_true
theorem op_ne:OpR X (compareOp .NotEq) rNe:=by
  intro pins s σ H x y v u Q I rx ry h
  obtain ⟨hs,q⟩:=h
  cases x with
  | non=>
    cases rx
    cases y with
    | non=>cases ry; exact PySem.EqNone.ne_none_none (fin_bl I q (by simp))
    | bl j=>cases ry; exact PySem.EqNone.ne_none_bool (fin_bl I q (by simp))
    | int j=>obtain ⟨t',rfl⟩:=ry; exact PySem.EqNone.ne_none_int (fin_bl I q (by simp))
    | str j=>obtain ⟨t',rfl⟩:=ry; exact PySem.EqNone.ne_none_str (fin_bl I q (by simp))
    | _=>exact absurd (show false = true from hs) Bool.false_ne_true
  | bl i=>
    cases rx
    cases y with
    | non=>cases ry; exact PySem.EqNone.ne_bool_none (fin_bl I q (by simp))
    | bl j=>cases ry; exact ne_bool (fin_bl I q (congrArg not dec_bl))
    | str j=>obtain ⟨t',rfl⟩:=ry; exact PySem.EqMixed.ne_bool_str (fin_bl I q (by simp))
    | _=>exact absurd (show false = true from hs) Bool.false_ne_true
  | int i=>
    obtain ⟨t,rfl⟩:=rx
    cases y with
    | non=>cases ry; exact PySem.EqNone.ne_int_none (fin_bl I q (by simp))
    | int j=>obtain ⟨t',rfl⟩:=ry; exact ne_int (fin_bl I q (congrArg not dec_int))
    | str j=>obtain ⟨t',rfl⟩:=ry; exact PySem.EqMixed.ne_int_str (fin_bl I q (by simp))
    | _=>exact absurd (show false = true from hs) Bool.false_ne_true
  | str i=>
    obtain ⟨t,rfl⟩:=rx
    cases y with
    | non=>cases ry; exact PySem.EqNone.ne_str_none (fin_bl I q (by simp))
    | bl j=>cases ry; exact PySem.EqMixed.ne_str_bool (fin_bl I q (by simp))
    | int j=>obtain ⟨t',rfl⟩:=ry; exact PySem.EqMixed.ne_str_int (fin_bl I q (by simp))
    | str j=>obtain ⟨t',rfl⟩:=ry; exact ne_str (fin_bl I q (congrArg not dec_str))
    | _=>exact absurd (show false = true from hs) Bool.false_ne_true
  | byt i=>
    obtain ⟨t,rfl⟩:=rx
    cases y with
    | byt j=>obtain ⟨t',rfl⟩:=ry; exact PySem.W.ne_bytes (fin_bl I q (congrArg not dec_byt))
    | _=>exact absurd (show false = true from hs) Bool.false_ne_true
  | _=>cases y <;> exact absurd (show false = true from hs) Bool.false_ne_true
theorem op_lt:OpR X (compareOp .Lt) (rI0 fun i j=>.bl (decide (i < j))):=opB0 fun _ _ _ _ _ _ _ q=>lt_int q
theorem op_le:OpR X (compareOp .LtE) (rI0 fun i j=>.bl (decide (i ≤ j))):=opB0 fun _ _ _ _ _ _ _ q=>le_int q
theorem op_gt:OpR X (compareOp .Gt) (rI0 fun i j=>.bl (decide (j < i))):=opB0 fun _ _ _ _ _ _ _ q=>gt_int q
theorem op_ge:OpR X (compareOp .GtE) (rI0 fun i j=>.bl (decide (j ≤ i))):=opB0 fun _ _ _ _ _ _ _ q=>ge_int q
theorem pe_cmpR {op:CmpOp} {r:R2} (ho:OpR X (compareOp op) r) (ha:PE X a ta) (hb:PE X b tb) (hm:behindInMarks op b = false):PE X (.Compare a [op] [b] pos) (tOp r ta tb):=by
  intro pins s σ H Q I h
  exact wpAny_Compare1 (binT ha hb I h fun v u s2 x y H2 I2 rx ry q=>ho pins s2 σ H2 x y v u Q I2 rx ry q) hm
def tTest (t:TE):TT:=fun σ H Q=>t σ H fun x H'=>∃ k,x = .bl k∧Q k H'
theorem pt_cmpR {op:CmpOp} {r:R2} (ho:OpR X (compareOp op) r) (ha:PE X a ta) (hb:PE X b tb) (hm:behindInMarks op b = false):PT X (.Compare a [op] [b] pos) (tTest (tOp r ta tb)):=by
  intro pins s σ H Q I h
  refine wpAny_isTrue_Compare1 (thn (ha pins s σ H _ I h) fun v s1 ⟨x,H1,I1,r1,q1⟩=>thn (hb pins s1 σ H1 _ I1 q1) fun u s2 ⟨y,H2,I2,r2,q2⟩=>
    thn (ho pins s2 σ H2 x y v u _ I2 r1 r2 q2) fun c s3 ⟨z,H3,I3,r3,k,e,q3⟩=>?_) hm
  subst e
  cases r3
  exact wpAny_truthy_bool ⟨H3,I3,q3⟩
theorem line63:(sizeLine:Nat) < 2 ^ 63:=by rw [sizeLine_eq]; decide
theorem op_add_str:OpR X (binaryOp .Add) (fun x y H Q=>∃ i j,x = .str i∧y = .str j∧i.length + j.length ≤ sizeLine∧Q (.str (i ++ j)) H):=by
  intro pins s σ H x y v u Q I rx ry h
  obtain ⟨i,j,rfl,rfl,hz,q⟩:=h
  obtain ⟨t,rfl⟩:=rx
  obtain ⟨t',rfl⟩:=ry
  exact add_str (fun t' tk=>⟨.str (i ++ j),H,I.tok _,⟨_,rfl⟩,q⟩) hz
theorem vals1 {x:V} {us:List Value} (r:Vals [x] us):∃ u,us = [u]∧RelV x u:=by
  cases r with
  | cons r1 r2=>cases r2; exact ⟨_,rfl,r1⟩
theorem vals2 {x y:V} {us:List Value} (r:Vals [x,y] us):∃ u w',us = [u,w']∧RelV x u∧RelV y w':=by
  cases r with
  | cons r1 r2=>
    cases r2 with
    | cons r3 r4=>cases r4; exact ⟨_,_,rfl,r1,r3⟩
theorem call_min2 (hc:X.calm = true):CallR X (.builtin "min") (fun xs H Q=>∃ i j,xs = [.int i,.int j]∧Q (.int (if j < i then j else i)) H):=by
  intro pins s σ H xs us Q I r h
  obtain ⟨i,j,rfl,q⟩:=h
  obtain ⟨u,w',rfl,⟨t,rfl⟩,⟨t',rfl⟩⟩:=vals2 r
  refine min_two_ints (I.ok.hd hc) fun h' tk k=>⟨_,H,I.kept k,?_,q⟩
  by_cases hj:j < i
  · rw [if_pos hj,if_pos hj]; exact ⟨_,rfl⟩
  · rw [if_neg hj,if_neg hj]; exact ⟨_,rfl⟩
theorem call_int1:CallR X (.type "int") (fun xs H Q=>(∃ i,xs = [.int i]∧Q (.int i) H) ∨ ∃ k,xs = [.bl k]∧Q (.int (if k then 1 else 0)) H):=by
  intro pins s σ H xs us Q I r h
  rcases h with ⟨i,rfl,q⟩ | ⟨k,rfl,q⟩
  · obtain ⟨u,rfl,t,rfl⟩:=vals1 r
    exact call_int_int ⟨.int i,H,I,⟨_,rfl⟩,q⟩
  · obtain ⟨u,rfl,r1⟩:=vals1 r
    cases r1
    exact call_int_bool ⟨.int (if k then 1 else 0),H,I.tok _,⟨_,rfl⟩,q⟩
end
structure ObjM (h:Heap) (x dx C:Addr) (mA:Str→Option Value):Prop where
  obj:h.get? x = some (PySem.W.instObj C dx)
  ns:h.Ns1 dx mA
  ne:dx ≠ x
theorem lookIn_ns {h:Heap} {dx:Addr} {mA:Str→Option Value} (n:h.Ns1 dx mA):∃ od,h.get? dx = some od∧∀ name,PySem.W.lookIn name od = some (mA name):=by
  obtain ⟨o,es,ep,ho,hd,hk,_,hm⟩:=n
  refine ⟨o,ho,fun name=>?_⟩
  have e:=hm name
  unfold nsFind findBy at e
  rw [← Array.find?_toList] at e
  unfold PySem.W.lookIn
  rw [hd]
  dsimp only
  split
  · rename_i y q
    rw [q] at e
    exact congrArg some e
  · rename_i q
    rw [q] at e
    have a:es.toList.any (·.refKey) = false:=by
      rw [List.any_eq_false]
      intro y hy
      obtain ⟨z,t,hkey⟩:=hk y (Array.mem_toList_iff.mp hy)
      simp [DictEntry.refKey,hkey]
    have a':¬ es.toList.any (·.refKey) = true:=by rw [a]; exact Bool.false_ne_true
    rw [if_neg a']
    exact congrArg some e
theorem ObjM.look {h:Heap} {x dx C:Addr} {mA:Str→Option Value} (I:ObjM h x dx C mA):∃ od,PySem.W.InstAt h x (PySem.W.instObj C dx) C (some od)∧∀ name,PySem.W.lookIn name od = some (mA name):=
  let ⟨od,ho,hl⟩:=lookIn_ns I.ns
  ⟨od,⟨I.obj,rfl,rfl,ho⟩,hl⟩
section
variable {prog:Program} {w:World} {A:Around} {E:Value→Shared→Prop} {s:Shared} {K:PySem.W.Frag} {x dx C f:Addr} {mA:Str→Option Value} {name:Str} {v:Value}
theorem get_map {expr:Bool} {Q:Value→Shared→Prop} (X:K.In s.heap) (I:ObjM s.heap x dx C mA) (hg:PySem.W.plainGet K C name = true) (hh:PySem.W.hasDictIn K C = true)
    (ha:PySem.W.findIn K (.ref C) name = some none) (hv:mA name = some v) (hv':PySem.W.handedIn v = true) (h:Q v { s with toks:=s.toks + 1 }) :
    wpAny (model prog w) A (getAttr (.ref x) name expr) Q E s:=by
  obtain ⟨od,J,hl⟩:=I.look
  exact PySem.W.get_value X J (PySem.W.plainGet_of hg).1 (PySem.W.findObj_own hh ha rfl (by rw [hl,hv])) hv' h
theorem get_meth {pl:Sem Bool} {Q:Value × List Value→Shared→Prop} (X:K.In s.heap) (I:ObjM s.heap x dx C mA) (hg:PySem.W.plainGet K C name = true)
    (hf:PySem.W.findIn K (.ref C) name = some (some (.ref f))) (ht:PySem.W.isFn K (.ref f) = true) (hv:mA name = none) (h:Q (.ref f,[.ref x]) s) :
    wpAny (model prog w) A (getMethod (.ref x) name pl) Q E s:=by
  obtain ⟨od,J,hl⟩:=I.look
  exact PySem.W.method_fn X J (PySem.W.plainGet_of hg).1 (PySem.W.plainGet_of hg).2 hf (beq_iff_eq.mp ht) (by show (PySem.W.lookIn name od).map (·.isSome) = some false; rw [hl,hv]; rfl) h
theorem set_map {ns:List Str} {Q:Unit→Shared→Prop} (X:K.In s.heap) (I:ObjM s.heap x dx C mA)
    (hs:PySem.W.findIn K (.ref C) "__setattr__" = some (some (.builtin "object.__setattr__"))) (hp:PySem.W.plainOver K C = true) (ht:PySem.W.takerIn K C name = some none) (hh:PySem.W.hasDictIn K C = true)
    (hw:PySem.Within mA ns) (hsz:ns.length ≤ sizeLine)
    (h:∀ h',ObjM h' x dx C (fun y=>if y = name then some v else mA y)→Heap.SameBut dx s.heap h'→Q () { s with heap:=h',toks:=s.toks + 2 }) :
    wpAny (model prog w) A (setAttr (.ref x) name v) Q E s:=by
  obtain ⟨od,J,hl⟩:=I.look
  refine PySem.W.set_plain X J hs (PySem.W.osa_open (s:={ s with toks:=s.toks + 1 }) (r:=none) X J hp ht fun b=>?_)
  obtain ⟨cd,hc,hd'⟩:=PySem.W.any_some hh
  have hx:s.heap.get? x = some ⟨.ref C,some dx,.plain,#[]⟩:=I.obj
  refine wpAny_bind (wpAny_pure (wpAny_bind (wpAny_bind (wpAny_loadPart hx (wpAny_bind (PySem.W.Looks.here (s:={ s with toks:=s.toks + 1 }) (PySem.W.looks_clsIn X hc) ?_))))))
  rw [hd']
  refine wpAny_pure (a:=some dx) (wpAny_bind (wpAny_pure (wpAny_bind ?_)))
  refine wpAny_nsSet1 (s:={ s with toks:=s.toks + 1 }) I.ns fun h' hn2 hs2=>?_
  obtain ⟨oD,esD,epD,hoD,hdD,hcD⟩:=hn2.count (PySem.Within.cons name v hw)
  refine wpAny_bind (wpAny_lookBehind hoD (by rw [hdD]; exact pastItsLine_dict (Nat.le_trans hcD (by rw [List.length_cons]; omega))) ?_)
  exact wpAny_pure (h _ ⟨(hs2.2 _ (Ne.symm I.ne)).trans I.obj,hn2,I.ne⟩ hs2)
theorem make_map {R:Result→Shared→Prop} {vs:List Value} {kw:List (Str × Value)} (X:K.In s.heap) (hm:PySem.W.makesIn K C = true)
    (hi : PySem.W.findIn K (.ref C) "__init__" = some (some (.ref f))) (hf : PySem.W.typeIn K (.ref f) = some (.type "function"))
    (h:codeAny (model prog w) (A.under (.builtin "type.__call__" ⟨.ref C :: vs,kw⟩)) (.call (.ref f) ⟨.ref (s.heap.objs.size + 1) :: vs,kw⟩) (PySem.W.InitBack (s.heap.objs.size + 1) R)
      { s with heap:=(s.heap.push PySem.W.emptyDict).push (PySem.W.instObj C s.heap.objs.size) }) :
    codeAny (model prog w) A (.call (.ref C) ⟨vs,kw⟩) R s:=by
  obtain ⟨hh,g,d,t,os⟩:=s
  exact PySem.W.make_core (PySem.W.makes_of X hm) (PySem.W.looks_findIn X hi) (fun self=>PySem.W.bind_fn X self hf) (.inl rfl) h
end
def putF (f:Str) (v:V):List (Str × V)→List (Str × V)
  | []=>[(f,v)]
  | (g,x) :: r=>if g = f then (g,v) :: r else (g,x) :: putF f v r
theorem lookup_putF (f g:Str) (v:V):∀ fs:List (Str × V),(putF f v fs).lookup g = if g = f then some v else fs.lookup g
  | []=>by
    show List.lookup g [(f,v)] = _
    by_cases h:g = f
    · have hb:(g == f) = true:=beq_iff_eq.mpr h
      simp only [List.lookup,hb,if_pos h]
    · have hb:(g == f) = false:=beq_eq_false_iff_ne.mpr h
      simp only [List.lookup,hb,if_neg h]
  | (k,x) :: r=>by
    have ih:=lookup_putF f g v r
    rw [show putF f v ((k,x) :: r) = (if k = f then (k,v) :: r else (k,x) :: putF f v r) from rfl]
    by_cases hk:k = f
    · rw [if_pos hk]
      by_cases h:g = k
      · have hb:(g == k) = true:=beq_iff_eq.mpr h
        simp only [List.lookup,hb,if_pos (h.trans hk)]
      · have hb:(g == k) = false:=beq_eq_false_iff_ne.mpr h
        simp only [List.lookup,hb,if_neg (fun e:g = f=>h (e.trans hk.symm))]
    · rw [if_neg hk]
      by_cases h:g = k
      · have hb:(g == k) = true:=beq_iff_eq.mpr h
        simp only [List.lookup,hb,if_neg (fun e:g = f=>hk (h.symm.trans e))]
      · have hb:(g == k) = false:=beq_eq_false_iff_ne.mpr h
        simp only [List.lookup,hb]
        exact ih
theorem keys_putF (f:Str) (v:V):∀ fs:List (Str × V),f ∈ (putF f v fs).map (·.1)∧∀ g,g ∈ fs.map (·.1)→g ∈ (putF f v fs).map (·.1)
  | []=>⟨by simp [putF],fun g h=>by simp at h⟩
  | (k,x) :: r=>by
    obtain ⟨i1,i2⟩:=keys_putF f v r
    rw [show putF f v ((k,x) :: r) = (if k = f then (k,v) :: r else (k,x) :: putF f v r) from rfl]
    by_cases hk:k = f
    · rw [if_pos hk]
      subst hk
      exact ⟨by simp,fun g h=>by simpa using h⟩
    · rw [if_neg hk]
      refine ⟨?_,fun g h=>?_⟩
      · rw [List.map_cons]
        exact List.mem_cons_of_mem _ i1
      · rw [List.map_cons] at h ⊢
        rcases List.mem_cons.mp h with e | e
        · exact List.mem_cons.mpr (.inl e)
        · exact List.mem_cons_of_mem _ (i2 g e)
theorem length_putF (f:Str) (v:V):∀ fs:List (Str × V),(putF f v fs).length ≤ fs.length + 1
  | []=>by simp [putF]
  | (k,x) :: r=>by
    have ih:=length_putF f v r
    rw [show putF f v ((k,x) :: r) = (if k = f then (k,v) :: r else (k,x) :: putF f v r) from rfl]
    by_cases hk:k = f
    · rw [if_pos hk,List.length_cons,List.length_cons]; omega
    · rw [if_neg hk,List.length_cons,List.length_cons]; omega
theorem RelO.some_of {v:V} {o:Option Value} (r:RelO (some v) o):∃ u,o = some u∧RelV v u:=by
  cases o with
  | none=>exact (show False from r).elim
  | some u=>exact ⟨u,rfl,r⟩
theorem RelO.none_of {o:Option Value} (r:RelO none o):o = none:=by
  cases o with
  | none=>rfl
  | some u=>exact (show False from r).elim
theorem handed_of {v:V} {u:Value} (r:RelV v u):PySem.W.handedIn u = true:=by
  cases v with
  | non=>cases (show u = Value.none from r); rfl
  | bl b=>cases (show u = Value.bool b from r); rfl
  | int i=>obtain ⟨t,e⟩:=(show ∃ t,u = Value.int i t from r); cases e; rfl
  | str x=>obtain ⟨t,e⟩:=(show ∃ t,u = Value.str x t from r); cases e; rfl
  | byt b=>obtain ⟨t,e⟩:=(show ∃ t,u = Value.bytes b t from r); cases e; rfl
  | flt b=>obtain ⟨t,e⟩:=(show ∃ t,u = Value.float b t from r); cases e; rfl
  | ref a=>cases (show u = Value.ref a from r); rfl
  | ty n=>cases (show u = Value.type n from r); rfl
section
variable {P:Program} {w:World} {H H':Hp} {h h':Heap} {a C dx:Addr} {fs fs':List (Str × V)}
theorem ins_get (hok:HOk P w H h) (e:H a = some (.ins C dx fs)):∃ mA,ObjM h a dx C mA∧(∀ f,RelO (fs.lookup f) (mA f))∧PySem.Within mA (fs.map (·.1))∧fs.length ≤ 1000∧H dx = some (.own a):=by
  obtain ⟨d,z,ne,ob,mA,n,r,q⟩:=(show ObjOk P w H h a (.ins C dx fs) from hok a _ e)
  exact ⟨mA,⟨ob,n,ne⟩,r,q,z,d⟩
end
structure Cls (K:PySem.W.Frag) (C:Addr):Prop where
  pg:PySem.W.plainGet K C Str.empty = true
  hd:PySem.W.hasDictIn K C = true
  po:PySem.W.plainOver K C = true
  sa:PySem.W.findIn K (.ref C) "__setattr__" = some (some (.builtin "object.__setattr__"))
theorem Cls.get {K:PySem.W.Frag} {C:Addr} (c:Cls K C) (f:Str):PySem.W.plainGet K C f = true:=c.pg
def NoAttr (K:PySem.W.Frag) (C:Addr) (f:Str):Prop:=PySem.W.findIn K (.ref C) f = some none
theorem NoAttr.taker {K:PySem.W.Frag} {C:Addr} {f:Str} (n:NoAttr K C f):PySem.W.takerIn K C f = some none:=by
  unfold PySem.W.takerIn
  rw [show PySem.W.findIn K (.ref C) f = some none from n]
  rfl
structure Meth (K:PySem.W.Frag) (C:Addr) (m:Str) (f:Addr):Prop where
  at_:PySem.W.findIn K (.ref C) m = some (some (.ref f))
  fn:PySem.W.isFn K (.ref f) = true
  kp:PySem.W.keepIn K (.ref f) = true
section
variable {X:Cx} {pins:List (Addr × Obj)} {σ:St} {H:Hp} {s:Shared} {a C dx:Addr} {fs:List (Str × V)} {f:Str} {v:V} {A:Around} {E:Value→Shared→Prop}
theorem getattr_ok {b:Bool} {Q:Value→Shared→Prop} (I:Inv X pins σ H s) (e:H a = some (.ins C dx fs)) (c:Cls X.K C) (n:NoAttr X.K C f) (l:fs.lookup f = some v)
    (h:∀ u s',Inv X pins σ H s'→RelV v u→Q u s'):wpAny (model X.prog X.w) A (getAttr (.ref a) f b) Q E s:=by
  obtain ⟨mA,O,r,_,_,_⟩:=ins_get I.hok e
  obtain ⟨u,hu,ru⟩:=RelO.some_of (v:=v) (o:=mA f) (by rw [← l]; exact r f)
  exact get_map I.kIn O (c.get f) c.hd n hu (handed_of ru) (h u _ (I.tok _) ru)
theorem getmeth_ok {m:Str} {g:Addr} {pl:Sem Bool} {Q:Value × List Value→Shared→Prop} (I:Inv X pins σ H s) (e:H a = some (.ins C dx fs)) (c:Cls X.K C) (k:Meth X.K C m g) (l:fs.lookup m = none)
    (h:Q (.ref g,[.ref a]) s):wpAny (model X.prog X.w) A (getMethod (.ref a) m pl) Q E s:=by
  obtain ⟨mA,O,r,_,_,_⟩:=ins_get I.hok e
  have hn:mA m = none:=RelO.none_of (by rw [← l]; exact r m)
  exact get_meth I.kIn O (c.get m) k.at_ k.fn hn h
theorem setattr_ok {y:V} {u:Value} {Q:Unit→Shared→Prop} (I:Inv X pins σ H s) (e:H a = some (.ins C dx fs)) (c:Cls X.K C) (n:NoAttr X.K C f) (hl:fs.length < 1000) (ry:RelV y u)
    (h:∀ s',Inv X pins σ (upd H a (.ins C dx (putF f y fs))) s'→Q () s'):wpAny (model X.prog X.w) A (setAttr (.ref a) f u) Q E s:=by
  obtain ⟨mA,O,r,wi,_,ho⟩:=ins_get I.hok e
  have hz:(fs.map (·.1)).length ≤ sizeLine:=by rw [List.length_map,sizeLine_eq]; omega
  refine set_map I.kIn O c.sa c.po n.taker c.hd wi hz fun h' O' sb=>h _ ?_
  have hd:∃ o,h'.get? dx = some o:=let ⟨o,_,_,e',_⟩:=O'.ns; ⟨o,e'⟩
  refine I.write (x:=a) (e:=dx) (by rw [e]; exact True.intro) (.inr ho) (fun b q hb z=>(sb.2 b hb).trans z) hd ?_
  refine ⟨by rw [upd_ne O.ne]; exact ho,?_,O.ne,O'.obj,_,O'.ns,fun g=>?_,fun g hg=>?_⟩
  · have:=length_putF f y fs; omega
  · show RelO ((putF f y fs).lookup g) (if g = f then some u else mA g)
    rw [lookup_putF]
    by_cases q:g = f
    · rw [if_pos q,if_pos q]; exact ry
    · rw [if_neg q,if_neg q]; exact r g
  · by_cases q:g = f
    · rw [q]; exact (keys_putF f y fs).1
    · refine (keys_putF f y fs).2 g (wi g fun z=>hg ?_)
      show (if g = f then some u else mA g) = none
      rw [if_neg q]; exact z
theorem Inv.made (I:Inv X pins σ H s):Inv X pins σ (upd (upd H s.heap.objs.size (.own (s.heap.objs.size + 1))) (s.heap.objs.size + 1) (.ins C s.heap.objs.size []))
    { s with heap:=(s.heap.push PySem.W.emptyDict).push (PySem.W.instObj C s.heap.objs.size) }:=by
  have e1:(s.heap.push PySem.W.emptyDict).get? s.heap.objs.size = some PySem.W.emptyDict:=Heap.get?_push_size s.heap rfl
  have e2:((s.heap.push PySem.W.emptyDict).push (PySem.W.instObj C s.heap.objs.size)).get? (s.heap.objs.size + 1) = some (PySem.W.instObj C s.heap.objs.size):=by
    have:=Heap.get?_push_size (s.heap.push PySem.W.emptyDict) (o:=PySem.W.instObj C s.heap.objs.size) rfl
    rwa [Heap.size_push] at this
  have e3:(s.heap.push PySem.W.emptyDict).Ns s.heap.objs.size (fun _=>none):=⟨PySem.W.emptyDict,#[],_,e1,rfl,(fun e he=>absurd he (by simp)),fun _=>rfl⟩
  have I1:=I.laid (a:=s.heap.objs.size) (o:=.own (s.heap.objs.size + 1)) (h':=s.heap.push PySem.W.emptyDict) (t':=s.toks) (fun b u q=>Heap.get?_push_of_some _ q) (Nat.le_refl _) ⟨_,e1⟩
  refine I1.laid (a:=s.heap.objs.size + 1) (o:=.ins C s.heap.objs.size []) (t':=s.toks) (fun b u q=>Heap.get?_push_of_some _ q) (Nat.le_of_eq (Heap.size_push _ _)) ?_
  have ne:s.heap.objs.size ≠ s.heap.objs.size + 1:=Nat.ne_of_lt (Nat.lt_succ_self _)
  refine ⟨by rw [upd_ne ne,upd_same],Nat.zero_le _,ne,e2,fun _=>none,(Heap.Ns1.of_empty e3).at fun o q=>Heap.get?_push_of_some _ q,fun _=>True.intro,fun y hy=>absurd rfl hy⟩
theorem attr_of {prog:Program} {w:World} {env:Env} {e:Expr} {f:Str} {pos:Pos} {s:Shared} {Q:Value→Shared→Prop} (hb:attributeBase e f env (eval e env) = eval e env)
    (h:wpAny (model prog w) A (eval e env) (fun o s₁=>wpAny (model prog w) A (getAttr o f true) Q E s₁) E s):wpAny (model prog w) A (eval (.Attribute e f pos) env) Q E s:=
  Attribute_any_ h (by rw [arm_eval_Attribute,hb])
end
def tFld (K:PySem.W.Frag) (ta:TE) (f:Str):TE:=fun σ H Q=>ta σ H fun x H1=>∃ a C dx fs v,x = .ref a∧H1 a = some (.ins C dx fs)∧Cls K C∧NoAttr K C f∧fs.lookup f = some v∧Q v H1
def sFld (K:PySem.W.Frag) (ta tv:TE) (f:Str):TS:=fun D σ H=>tv σ H fun y H1=>ta σ H1 fun x H2=>∃ a C dx fs,x = .ref a∧H2 a = some (.ins C dx fs)∧Cls K C∧NoAttr K C f∧fs.length < 1000∧
  D.nx σ (upd H2 a (.ins C dx (putF f y fs)))
section
variable {X:Cx} {o e value:Expr} {f:Str} {pos pos' tpos:Pos} {ta tv:TE}
theorem pe_fld (he:PE X e ta) (hb:attributeBase e f X.env (eval e X.env) = eval e X.env):PE X (.Attribute e f pos) (tFld X.K ta f):=by
  intro pins s σ H Q I h
  refine attr_of hb (thn (he pins s σ H _ I h) fun u s1 ⟨x,H1,I1,rx,a,C,dx,fs,v,ex,ea,c,n,l,q⟩=>?_)
  subst ex
  obtain rfl:u = Value.ref a:=rx
  exact getattr_ok I1 ea c n l fun u' s2 I2 ru=>⟨v,H1,I2,ru,q⟩
theorem ps_fld (ha:PE X o ta) (hv:PE X value tv) (hs:swapsWith value (some (.Attribute o f pos')) pos.line X.env = pure false):PS X (.Assign [.Attribute o f pos'] value pos) (sFld X.K ta tv f):=by
  intro pins s σ H D I h
  refine plainObj_wpAny_Assign_Attribute (thn (hv pins s σ H _ I h) fun u s1 ⟨y,H1,I1,ry,q⟩=>thn (ha pins s1 σ H1 _ I1 q) fun ov s2 ⟨x,H2,I2,rx,a,C,dx,fs,ex,ea,c,n,l,q2⟩=>?_) hs
  subst ex
  obtain rfl:ov = Value.ref a:=rx
  exact setattr_ok I2 ea c n l ry fun s3 I3=>⟨σ,_,I3,q2⟩
end
section
variable {X:Cx} {pins:List (Addr × Obj)} {σ:St} {H:Hp} {s:Shared} {A:Around} {E:Value→Shared→Prop} {Q:Value→Shared→Prop} {c:Value} {b:Bool}
inductive TyOf (K:PySem.W.Frag) (H:Hp):V→Value→Prop where
  | non:TyOf K H .non (.type "NoneType")
  | bl (x:Bool):TyOf K H (.bl x) (.type "bool")
  | int (i:Int):TyOf K H (.int i) (.type "int")
  | str (x:Str):TyOf K H (.str x) (.type "str")
  | flt (x:UInt64):TyOf K H (.flt x) (.type "float")
  | lst {a:Addr} {xs:List V} (e:H a = some (.lst xs)):TyOf K H (.ref a) (.type "list")
  | frz {a:Addr} {o:Obj} {xs:List V} (e:H a = some (.frz o (.lst xs))):TyOf K H (.ref a) (.type "list")
  | tup {a:Addr} {xs:List V} (e:H a = some (.tup xs)):TyOf K H (.ref a) (.type "tuple")
  | dK {a:Addr} {kvs:List (Key × V)} (e:H a = some (.dK kvs)):TyOf K H (.ref a) (.type "dict")
  | dT {a:Addr} {kvs:List (List Key × V)} (e:H a = some (.dT kvs)):TyOf K H (.ref a) (.type "dict")
  | ins {a C dx:Addr} {fs:List (Str × V)} (e:H a = some (.ins C dx fs)) (cl:Cls K C) (ha:PySem.W.findIn K (.ref C) "__class__" = some (some (.builtin "object.__class__")))
      (hn : PySem.W.specialIn K (.builtin "object.__class__") "__get__" = some (some (.builtin "getset_descriptor.__get__"))) (htk : PySem.W.takesIn K (.builtin "object.__class__") = some true)
      (hm:PySem.W.mroIn K C (.type "object") = some true):TyOf K H (.ref a) (.ref C)
theorem isinst_ok {x:V} {u t:Value} (I:Inv X pins σ H s) (rx:RelV x u) (ty:TyOf X.K H x t) (e:PySem.W.kitOne X.K t c = some b) (h:∀ tk,Q (.bool b) { s with toks:=tk }) :
    wpAny (model X.prog X.w) A (call (.builtin "isinstance") [u,c]) Q E s:=by
  cases ty with
  | non=>cases (show u = Value.none from rx); exact PySem.W.kia_one PySem.W.kitx_none I.kIn True.intro e (fun z=>nomatch z) h
  | bl y=>cases (show u = Value.bool y from rx); exact PySem.W.kia_one PySem.W.kitx_bool I.kIn True.intro e (fun z=>nomatch z) h
  | int i=>obtain ⟨t,q⟩:=(show ∃ t,u = Value.int i t from rx); cases q; exact PySem.W.kia_one PySem.W.kitx_int I.kIn True.intro e (fun z=>nomatch z) h
  | str y=>obtain ⟨t,q⟩:=(show ∃ t,u = Value.str y t from rx); cases q; exact PySem.W.kia_one PySem.W.kitx_str I.kIn True.intro e (fun z=>nomatch z) h
  | flt y=>obtain ⟨t,q⟩:=(show ∃ t,u = Value.float y t from rx); cases q; exact PySem.W.kia_one PySem.W.kitx_float I.kIn True.intro e (fun z=>nomatch z) h
  | @lst a xs ea=>
    cases (show u = Value.ref a from rx)
    obtain ⟨_,_,n,_,h1⟩:=(show ObjOk X.prog X.w H s.heap a (.lst xs) from I.hok a _ ea)
    exact PySem.W.kia_one PySem.W.kitx_list I.kIn ⟨_,h1,rfl⟩ e (fun z=>nomatch z) h
  | @frz a ob xs ea=>
    cases (show u = Value.ref a from rx)
    obtain ⟨_,_,_,n,_,h1⟩:=(show ObjOk X.prog X.w H s.heap a (.frz ob (.lst xs)) from I.hok a _ ea)
    exact PySem.W.kia_one PySem.W.kitx_list I.kIn ⟨_,h1,rfl⟩ e (fun z=>nomatch z) h
  | @tup a xs ea=>
    cases (show u = Value.ref a from rx)
    obtain ⟨_,_,_,p⟩:=(show ObjOk X.prog X.w H s.heap a (.tup xs) from I.hok a _ ea)
    obtain ⟨o,h1,h2,_⟩:=p
    exact PySem.W.kia_one PySem.W.kitx_tuple I.kIn ⟨o,h1,h2⟩ e (fun z=>nomatch z) h
  | @dK a kvs ea=>
    cases (show u = Value.ref a from rx)
    obtain ⟨_,_,vs,_,p⟩:=(show ObjOk X.prog X.w H s.heap a (.dK kvs) from I.hok a _ ea)
    obtain ⟨o,es,ep,h1,h2,_⟩:=p
    exact PySem.W.kia_one PySem.W.kitx_dict I.kIn ⟨o,h1,h2.1⟩ e (fun z=>nomatch z) h
  | @dT a kvs ea=>
    cases (show u = Value.ref a from rx)
    obtain ⟨_,_,xs,_,o,es,ep,h1,h2,_⟩:=(show ObjOk X.prog X.w H s.heap a (.dT kvs) from I.hok a _ ea)
    exact PySem.W.kia_one PySem.W.kitx_dict I.kIn ⟨o,h1,h2.1⟩ e (fun z=>nomatch z) h
  | @ins a C dx fs ea cl ha hn htk hm=>
    cases (show u = Value.ref a from rx)
    obtain ⟨mA,O,_⟩:=ins_get I.hok ea
    obtain ⟨od,J,_⟩:=O.look
    exact PySem.W.kia_one (PySem.W.kitx_own (cl.get _) cl.hd ha hn htk hm) I.kIn J e (fun z=>nomatch z) h
end
structure Room (k:Nat) (A:Around):Prop where
  hd:A.handled = none
  dp:A.depth + 3 * k + 5 < recursionLimit
  un:A.units + 16 * k + 200 < cLine
theorem Room.mono {j k:Nat} {A:Around} (r:Room k A) (h:j ≤ k):Room j A:=⟨r.hd,by have:=r.dp; omega,by have:=r.un; omega⟩
theorem Room.deeper {k:Nat} {A:Around} (r:Room (k + 1) A) (env:Env):Room k (A.deeper env):=
  ⟨r.hd,by have:=r.dp; show A.depth + 1 + 3 * k + 5 < _; omega,by have:=r.un; show A.units + 3 + 16 * k + 200 < _; omega⟩
theorem make_depth {A:Around} {C:Addr} {us:List Value} {kw:List (Str × Value)}:(A.under (.builtin "type.__call__" ⟨.ref C :: us,kw⟩)).depth = A.depth + 1:=by
  first | rfl | simp [Around.under,Code.weight,Code.isCreation,Code.isGuard,Code.isCaller,Code.frames,Code.isFrame,guardIds]
theorem make_units {A:Around} {C:Addr} {us:List Value} {kw:List (Str × Value)}:(A.under (.builtin "type.__call__" ⟨.ref C :: us,kw⟩)).units = A.units + 1:=by
  first | rfl | simp [Around.under,Code.cUnits,Code.frames,Code.isFrame]
theorem Room.make {k:Nat} {A:Around} (r:Room (k + 1) A) (C:Addr) (us:List Value) (kw:List (Str × Value)):Room k (A.under (.builtin "type.__call__" ⟨.ref C :: us,kw⟩)):=
  ⟨r.hd,by have:=r.dp; rw [make_depth]; omega,by have:=r.un; rw [make_units]; omega⟩
theorem Room.depth {k:Nat} {A:Around} (r:Room k A):A.depth < recursionLimit:=by have:=r.dp; omega
theorem Room.units {k:Nat} {A:Around} (r:Room k A):A.units + 64 < cLine:=by have:=r.un; omega
def tNil:TA:=fun _ H Q=>Q [] H
def tCons (ta:TE) (tr:TA):TA:=fun σ H Q=>ta σ H fun x H1=>tr σ H1 fun xs H2=>Q (x :: xs) H2
section
variable {X:Cx} {e:Expr} {es:List Expr} {te:TE} {t:TA} {pos:Pos}
theorem pa_nil:PA X [] tNil:=fun _ _ _ _ H Q I h=>Calls.spliced_nil ⟨[],H,I,.nil,h⟩
theorem pa_cons (ha:PE X e te) (hr:PA X es t) (hs:starEach (e :: es) X.env = (false,eval e X.env) :: starEach es X.env:=by rfl):PA X (e :: es) (tCons te t):=by
  intro pos pins s σ H Q I h
  rw [hs]
  show wpAny _ _ (spliced ((false,eval e X.env) :: backTo pos (starEach es X.env))) _ _ s
  refine Calls.spliced_cons (thn (ha pins s σ H _ I h) fun u s1 ⟨x,H1,I1,r1,q1⟩=>?_)
  exact thn (hr pos pins s1 σ H1 _ I1 q1) fun us s2 ⟨xs,H2,I2,r2,q2⟩=>⟨x :: xs,H2,I2,.cons r1 r2,q2⟩
def tTup (t:TA):TE:=fun σ H Q=>t σ H fun xs H1=>xs.length ≤ sizeLine∧∀ p,H1 p = none→Q (.ref p) (upd H1 p (.tup xs))
def tLst (t:TA):TE:=fun σ H Q=>t σ H fun xs H1=>xs.length ≤ sizeLine∧∀ p,H1 p = none→Q (.ref p) (upd H1 p (.lst xs))
theorem pe_tup {x1} (h:PA X es t):PE X (.Tuple es x1 pos) (tTup t):=by
  intro pins s σ H Q I hq
  refine wpAny_Tuple_spliced (thn (h pos pins s σ H _ I hq) fun us s1 ⟨xs,H1,I1,r,z,q⟩=>⟨by rw [← r.length]; exact z,?_⟩)
  have hf:H1 s1.heap.objs.size = none:=I1.hok.fresh (Nat.le_refl _)
  refine ⟨.ref s1.heap.objs.size,upd H1 s1.heap.objs.size (.tup xs),I1.laid (t':=s1.toks) (fun b u e=>Heap.get?_push_of_some _ e) (Nat.le_refl _) ?_,rfl,q _ hf⟩
  exact ⟨z,us,r,⟨_,Heap.get?_push_size _ rfl,rfl,_,rfl⟩⟩
theorem pe_lst (h:PA X es t):PE X (.List es pos) (tLst t):=by
  intro pins s σ H Q I hq
  refine wpAny_List_spliced (thn (h pos pins s σ H _ I hq) fun us s1 ⟨xs,H1,I1,r,z,q⟩=>⟨by rw [← r.length]; exact z,?_⟩)
  have hf:H1 s1.heap.objs.size = none:=I1.hok.fresh (Nat.le_refl _)
  refine ⟨.ref s1.heap.objs.size,upd H1 s1.heap.objs.size (.lst xs),I1.laid (t':=s1.toks) (fun b u e=>Heap.get?_push_of_some _ e) (Nat.le_refl _) ?_,rfl,q _ hf⟩
  exact ⟨z,us,0,r,Heap.get?_push_size _ rfl⟩
end
abbrev Sp:=List V→Hp→VK→XK→Prop
abbrev CXT:=List Env→Hp→Shared→XK→Value→Shared→Prop
structure Env0 (P:Program) (w:World) (K:PySem.W.Frag) (mg:Str→Option Value) (base:Heap) (A:Around) (outer:List Env) (s:Shared) (H:Hp):Prop where
  frames:A.frames = some outer
  mod:Mod K mg base
  bs:∀ b o,base.get? b = some o→s.heap.get? b = some o∧H b = none
  bsz:base.objs.size ≤ s.heap.objs.size
  funs:s.heap.FunFrames base outer
  frf:∀ b ∈ frs outer,H b = none
  hok:HOk P w H s.heap
  bare:AllBare s.gens
def CE (outer:List Env) (P:Program) (w:World) (H:Hp) (s:Shared) (Q:VK) (u:Value) (s':Shared):Prop:=
  ∃ v H',s'.os = s.os∧AllBare s'.gens∧Un (frs outer) [] H H' s.heap s'.heap∧HOk P w H' s'.heap∧RelV v u∧Q v H'
def CR (CX:CXT) (outer:List Env) (P:Program) (w:World) (H:Hp) (s:Shared) (Q:VK) (E:XK) (r:Result) (s':Shared):Prop:=
  match r with
  | .ok (.ret u)=>CE outer P w H s Q u s'
  | .ok _=>False
  | .error e=>CX outer H s E e s'
structure FnOk (P:Program) (w:World) (K:PySem.W.Frag) (mg:Str→Option Value) (base:Heap) (CX:CXT) (k:Nat) (f:Addr) (fd:FuncData) (ps:List Str) (sp:Sp):Prop where
  len:∀ vs H Q E,sp vs H Q E→vs.length = ps.length
  run:∀ (A:Around) (outer:List Env) (s:Shared) (H:Hp) (args:Args) (us:List Value) (vs:List V) (Q:VK) (E:XK),Room k A→Env0 P w K mg base A outer s H→BindsTo s fd args (ps.zip us)→Vals vs us→sp vs H Q E→
    codeAny (model P w) A (.call (.ref f) args) (CR CX outer P w H s Q E) s
theorem Env0.make {P:Program} {w:World} {K:PySem.W.Frag} {mg:Str→Option Value} {base:Heap} {A:Around} {outer:List Env} {s:Shared} {H:Hp} (e:Env0 P w K mg base A outer s H) (C:Addr) (us:List Value) (kw:List (Str × Value)) :
    Env0 P w K mg base (A.under (.builtin "type.__call__" ⟨.ref C :: us,kw⟩)) outer s H:=⟨by first | exact e.frames | (simpa [Around.under,Code.envs,Code.isFrame,pushEnvs] using e.frames),e.mod,e.bs,e.bsz,e.funs,e.frf,e.hok,e.bare⟩
section
variable {X:Cx} {pins:List (Addr × Obj)} {σ:St} {H:Hp} {s s':Shared}
theorem Inv.env0 (I:Inv X pins σ H s):Env0 X.prog X.w X.K X.mg X.base X.A X.stack s H:=
  ⟨I.ok.frames,I.ok.mod,I.bs,Nat.le_trans I.ok.bsz I.sz,I.stack,I.stkFree,I.hok,I.bare⟩
theorem Inv.after {Q:VK} {u:Value} (I:Inv X pins σ H s) (h:CE X.stack X.prog X.w H s Q u s'):EP X pins σ Q u s':=by
  obtain ⟨v,H',os,bare,un,hok,r,q⟩:=h
  obtain ⟨hh,g,d,t,os'⟩:=s'
  obtain rfl:os' = s.os:=os
  exact ⟨v,H',I.call (h':=hh) (g':=g) (d':=d) (t':=t) (ch:=[]) un hok bare (fun b z=>absurd z (by simp)),r,q⟩
end
def tCall (sp:Sp) (dvs:List V) (E:XK) (t:TA):TE:=fun σ H Q=>t σ H fun vs H1=>sp (vs ++ dvs) H1 Q E
def tMeth (C:Addr) (m:Str) (sp:Sp) (dvs:List V) (E:XK) (ta:TE) (t:TA):TE:=fun σ H Q=>ta σ H fun x H1=>∃ a dx fs,x = .ref a∧H1 a = some (.ins C dx fs)∧fs.lookup m = none∧
  t σ H1 fun vs H2=>sp (x :: (vs ++ dvs)) H2 Q E
def tMake (C:Addr) (sp:Sp) (dvs:List V) (E:XK) (t:TA):TE:=fun σ H Q=>t σ H fun vs H1=>∀ x dx,H1 x = none→H1 dx = none→dx ≠ x→
  sp (.ref x :: (vs ++ dvs)) (upd (upd H1 dx (.own x)) x (.ins C dx [])) (fun v H2=>v = .non∧Q (.ref x) H2) E
def Binds (K:PySem.W.Frag) (fd:FuncData) (ps:List Str) (ds:List Value):Prop:=
  ∀ (s:Shared) (us:List Value),K.In s.heap→(us ++ ds).length = ps.length→BindsTo s fd ⟨us,[]⟩ (ps.zip (us ++ ds))
theorem Binds.all {K:PySem.W.Frag} {fd:FuncData} {ps:List Str} (h:∀ us:List Value,us.length = ps.length→bindArgs fd ⟨us,[]⟩ = pure (ps.zip us)):Binds K fd ps []:=fun s us _ hl=>by
  rw [List.append_nil] at hl ⊢
  exact .of_eq (h us hl)
def Passes (CX:CXT) (X:Cx) (E:XK):Prop:=∀ (pins:List (Addr × Obj)) (σ:St) (H:Hp) (s:Shared) (e:Value) (s':Shared),Inv X pins σ H s→CX X.stack H s E e s'→X.xe e s'
section
variable {X:Cx} {CX:CXT} {k:Nat} {f C:Addr} {fd:FuncData} {ps:List Str} {sp:Sp} {dvs:List V} {ds:List Value} {E:XK} {x m:Str} {p pos apos:Pos} {e o:Expr} {es:List Expr} {ta:TE} {t:TA}
theorem run_fn {pins:List (Addr × Obj)} {σ:St} {H:Hp} {s:Shared} {Q:VK} {us:List Value} {vs:List V} (F:FnOk X.prog X.w X.K X.mg X.base CX k f fd ps sp) (hr:Room k X.A) (hb:Binds X.K fd ps ds) (hd:Vals dvs ds) (hx:Passes CX X E)
    (I:Inv X pins σ H s) (r:Vals vs us) (h:sp (vs ++ dvs) H Q E):wpAny (model X.prog X.w) X.A (call (.ref f) us) (EP X pins σ Q) X.xe s:=by
  have r2:Vals (vs ++ dvs) (us ++ ds):=r.append hd
  have hl:(us ++ ds).length = ps.length:=by rw [← r2.length]; exact F.len _ _ _ _ h
  refine wpAny_call (codeAny_mono (F.run X.A X.stack s H ⟨us,[]⟩ (us ++ ds) (vs ++ dvs) Q E hr I.env0 (hb s us I.kIn hl) r2 h) fun r s' hq=>?_)
  cases r with
  | error e=>exact hx pins σ H s e s' I hq
  | ok fl=>
    cases fl with
    | ret u=>exact I.after hq
    | next=>exact False.elim hq
    | brk=>exact False.elim hq
    | cont=>exact False.elim hq
theorem pe_call (F:FnOk X.prog X.w X.K X.mg X.base CX k f fd ps sp) (hr:Room k X.A) (hg:Gl X x) (hm:X.mg x = some (.ref f)) (hk:PySem.W.keepIn X.K (.ref f) = true) (hb:Binds X.K fd ps ds) (hd:Vals dvs ds) (hx:Passes CX X E)
    (ha:PA X (e :: es) t) (hdb:(x == ("__debug__":Str)) = false:=by decide) (he:starEach (e :: es) X.env = (false,eval e X.env) :: starEach es X.env:=by rfl) (hpl:(backTo pos (starEach es X.env)).any (·.1) = false:=by rfl) :
    PE X (.Call (.Name x p) (e :: es) [] pos) (tCall sp dvs E t):=by
  intro pins s σ H Q I h
  refine wpAny_Call_Name_kw (ld_glob I hg hm ?_ hdb)
  refine PySem.W.callWith_K (h₀:=X.base) I.ok.mod.kin hk (thn (ha pos pins s σ H _ I h) fun us s1 ⟨vs,H1,I1,r,q⟩=>⟨I1.kIn,?_⟩) he hpl
  exact run_fn F hr hb hd hx I1 r q
theorem pe_meth {pl:Sem Bool} (he:PE X o ta) (c:Cls X.K C) (hm:Meth X.K C m f) (F:FnOk X.prog X.w X.K X.mg X.base CX k f fd ps sp) (hr:Room k X.A) (hb:Binds X.K fd ps ds) (hd:Vals dvs ds) (hx:Passes CX X E) (ha:PA X (e :: es) t)
    (hst:starEach (e :: es) X.env = (false,eval e X.env) :: starEach es X.env:=by rfl) (hpl:(backTo pos (starEach es X.env)).any (·.1) = false:=by rfl)
    (ht:eval (.Call (.Attribute o m apos) (e :: es) [] pos) X.env = (do
      let ov ← eval o X.env
      standAt apos.atName
      let (f,first) ← holding [ov] (getMethod ov m pl)
      callWith pos f first (backTo pos (starEach (e :: es) X.env)) (backToKw pos (keywordEach [] X.env))):=by rfl) :
    PE X (.Call (.Attribute o m apos) (e :: es) [] pos) (tMeth C m sp dvs E ta t):=by
  intro pins s σ H Q I h
  refine PySem.W.methodCall_KW (pl:=pl) (thn (he pins s σ H _ I h) fun u s1 ⟨x,H1,I1,rx,a,dx,fs,ex,ea,l,q⟩=>?_) ht
  subst ex
  obtain rfl:u = Value.ref a:=rx
  refine getmeth_ok I1 ea c hm l ?_
  refine PySem.W.callWith_K (first:=[.ref a]) (h₀:=X.base) I.ok.mod.kin hm.kp (thn (ha pos pins s1 σ H1 _ I1 q) fun us s2 ⟨vs,H2,I2,r,q2⟩=>⟨I2.kIn,?_⟩) hst hpl
  exact run_fn (us:=.ref a :: us) (vs:=.ref a :: vs) F hr hb hd hx I2 (.cons rfl r) q2
theorem pe_meth0 {pl:Sem Bool} (he:PE X o ta) (c:Cls X.K C) (hm:Meth X.K C m f) (F:FnOk X.prog X.w X.K X.mg X.base CX k f fd ps sp) (hr:Room k X.A) (hb:Binds X.K fd ps ds) (hd:Vals dvs ds) (hx:Passes CX X E)
    (ht:eval (.Call (.Attribute o m apos) [] [] pos) X.env = (do
      let ov ← eval o X.env
      standAt apos.atName
      let (f,first) ← holding [ov] (getMethod ov m pl)
      callWith pos f first (backTo pos (starEach [] X.env)) (backToKw pos (keywordEach [] X.env))):=by rfl) :
    PE X (.Call (.Attribute o m apos) [] [] pos) (tMeth C m sp dvs E ta tNil):=by
  intro pins s σ H Q I h
  refine PySem.W.methodCall_KW (pl:=pl) (thn (he pins s σ H _ I h) fun u s1 ⟨x,H1,I1,rx,a,dx,fs,ex,ea,l,q⟩=>?_) ht
  subst ex
  obtain rfl:u = Value.ref a:=rx
  refine getmeth_ok I1 ea c hm l ?_
  exact PySem.W.callWith_K0 (first:=[.ref a]) I1.kIn hm.kp (run_fn (us:=[.ref a]) (vs:=[.ref a]) F hr hb hd hx I1 (.cons rfl .nil) q)
structure Mk (K:PySem.W.Frag) (C f:Addr):Prop where
  makes:PySem.W.makesIn K C = true
  init:PySem.W.findIn K (.ref C) "__init__" = some (some (.ref f))
  fn:PySem.W.isFn K (.ref f) = true
  kp:PySem.W.keepIn K (.ref C) = true
theorem run_make {pins:List (Addr × Obj)} {σ:St} {H:Hp} {s:Shared} {Q:VK} {us:List Value} {vs:List V} (M:Mk X.K C f) (F:FnOk X.prog X.w X.K X.mg X.base CX k f fd ps sp) (hr:Room (k + 1) X.A) (hb:Binds X.K fd ps ds) (hd:Vals dvs ds)
    (hx:Passes CX X E) (I:Inv X pins σ H s) (r:Vals vs us)
    (h:∀ x dx,H x = none→H dx = none→dx ≠ x→sp (.ref x :: (vs ++ dvs)) (upd (upd H dx (.own x)) x (.ins C dx [])) (fun v H2=>v = .non∧Q (.ref x) H2) E) :
    wpAny (model X.prog X.w) X.A (call (.ref C) us) (EP X pins σ Q) X.xe s:=by
  have hq:=h (s.heap.objs.size + 1) s.heap.objs.size (I.hok.fresh (Nat.le_succ _)) (I.hok.fresh (Nat.le_refl _)) (Nat.ne_of_lt (Nat.lt_succ_self _))
  have I2:=Inv.made (C:=C) I
  have r2:Vals (V.ref (s.heap.objs.size + 1) :: (vs ++ dvs)) (Value.ref (s.heap.objs.size + 1) :: (us ++ ds)):=.cons rfl (r.append hd)
  have hl:(Value.ref (s.heap.objs.size + 1) :: us ++ ds).length = ps.length:=by
    have e:=r2.length
    rw [F.len _ _ _ _ hq] at e
    exact e.symm
  refine wpAny_call (make_map (f:=f) I.kIn M.makes M.init (beq_iff_eq.mp M.fn) (codeAny_mono (F.run _ X.stack _ _ ⟨Value.ref (s.heap.objs.size + 1) :: us,[]⟩ (Value.ref (s.heap.objs.size + 1) :: (us ++ ds)) _ _ E (hr.make C us [])
    (I2.env0.make C us []) (hb _ (Value.ref (s.heap.objs.size + 1) :: us) I2.kIn hl) r2 hq) fun r s' hq'=>?_))
  cases r with
  | error e=>exact hx pins σ _ _ e s' I2 hq'
  | ok fl=>
    cases fl with
    | ret u=>
      obtain ⟨v,H',I3,rv,ev,q3⟩:=I2.after hq'
      subst ev
      exact ⟨rv,⟨V.ref (s.heap.objs.size + 1),H',I3,rfl,q3⟩⟩
    | next=>exact False.elim hq'
    | brk=>exact False.elim hq'
    | cont=>exact False.elim hq'
theorem pe_make (M:Mk X.K C f) (F:FnOk X.prog X.w X.K X.mg X.base CX k f fd ps sp) (hr:Room (k + 1) X.A) (hg:Gl X x) (hm:X.mg x = some (.ref C)) (hb:Binds X.K fd ps ds) (hd:Vals dvs ds) (hx:Passes CX X E)
    (ha:PA X (e :: es) t) (hdb:(x == ("__debug__":Str)) = false:=by decide) (he:starEach (e :: es) X.env = (false,eval e X.env) :: starEach es X.env:=by rfl) (hpl:(backTo pos (starEach es X.env)).any (·.1) = false:=by rfl) :
    PE X (.Call (.Name x p) (e :: es) [] pos) (tMake C sp dvs E t):=by
  intro pins s σ H Q I h
  refine wpAny_Call_Name_kw (ld_glob I hg hm ?_ hdb)
  refine PySem.W.callWith_K (h₀:=X.base) I.ok.mod.kin M.kp (thn (ha pos pins s σ H _ I h) fun us s1 ⟨vs,H1,I1,r,q⟩=>⟨I1.kIn,?_⟩) he hpl
  exact run_make M F hr hb hd hx I1 r q
end
def PK (X:Cx) (kws:List Keyword) (t:TA):Prop:=
  ∀ (pos:Pos) (pins:List (Addr × Obj)) (s:Shared) (σ:St) (H:Hp) (Q:List V→Hp→Prop),Inv X pins σ H s→t σ H Q→wpAny (model X.prog X.w) X.A (evalAll ((backToKw pos (keywordEach kws X.env)).map (·.2))) (AP X pins σ Q) X.xe s
section
variable {X:Cx} {CX:CXT} {k:Nat} {f C:Addr} {fd:FuncData} {ps ks:List Str} {sp:Sp} {E:XK} {x m:Str} {p pos apos kpos:Pos} {e o:Expr} {es:List Expr} {kws:List Keyword} {te ta:TE} {t tk:TA} {nm:Option Str}
theorem pk_nil:PK X [] tNil:=fun _ _ _ _ H Q I h=>wpAny_evalAll_nil ⟨[],H,I,.nil,h⟩
theorem pk_cons (ha:PE X e te) (hr:PK X kws t):PK X (⟨nm,e,kpos⟩ :: kws) (tCons te t):=by
  intro pos pins s σ H Q I h
  show wpAny _ _ (evalAll ((do let v ← eval e X.env; standAt pos; pure v) :: (backToKw pos (keywordEach kws X.env)).map (·.2))) _ _ s
  refine wpAny_evalAll_cons (wpAny_bind (thn (ha pins s σ H _ I h) fun u s1 ⟨x,H1,I1,r1,q1⟩=>wpAny_bind (wpAny_standAt (wpAny_pure ?_))))
  exact thn (hr pos pins s1 σ H1 _ I1 q1) fun us s2 ⟨xs,H2,I2,r2,q2⟩=>⟨x :: xs,H2,I2,.cons r1 r2,q2⟩
variable {g:List Value→List Value→List Value} {gV:List V→List V→List V}
end
structure FnScope (N P:List Str) (sc:Scope):Prop where
  kind:sc.kind = .function
  co:sc.isCoroutine = false
  gen:sc.isGenerator = false
  nd:N.Nodup
  pre:N.take P.length = P
  par:∀ x ∈ P,sc.names.lookup x = some .local ∨ sc.names.lookup x = some .cell
  nofree:∀ y ∈ sc.names,y.2 ≠ .free
theorem bindL_out {kindOf:Str→Option NameKind} {x:Str}:∀ {binds:List (Str × Value)} {m:Str→Option Value},(∀ v,(x,v) ∉ binds)→bindL kindOf binds m x = m x
  | [],_,_=>rfl
  | (n,v) :: r,m,h=>by
    unfold bindL
    rw [bindL_out fun w hw=>h w (List.mem_cons_of_mem _ hw)]
    split
    · have:x ≠ n:=by rintro rfl; exact h v List.mem_cons_self
      simp [this]
    · rfl
theorem bindC_out {kindOf:Str→Option NameKind} {x:Str}:∀ {binds:List (Str × Value)} {m:Str→Option Value},(∀ v,(x,v) ∉ binds)→bindC kindOf binds m x = m x
  | [],_,_=>rfl
  | (n,v) :: r,m,h=>by
    unfold bindC
    rw [bindC_out fun w hw=>h w (List.mem_cons_of_mem _ hw)]
    split
    · rfl
    · have:x ≠ n:=by rintro rfl; exact h v List.mem_cons_self
      simp [this]
theorem bindL_get {kindOf:Str→Option NameKind} {x:Str} {v:Value}:∀ {P:List Str} {vs:List Value} {i:Nat} {m:Str→Option Value},P.Nodup→P[i]? = some x→vs[i]? = some v→kindOf x = some .local→
    bindL kindOf (P.zip vs) m x = some v
  | [],_,_,_,_,h,_,_=>by simp at h
  | _ :: _,[],_,_,_,_,h,_=>by simp at h
  | p :: P,w :: vs,0,m,nd,h1,h2,hk=>by
    simp at h1 h2; subst h1; subst h2
    show bindL kindOf ((p,w) :: P.zip vs) m p = _
    unfold bindL
    rw [bindL_out fun v hv=>(List.nodup_cons.mp nd).1 (List.of_mem_zip hv).1,if_pos hk]
    simp
  | p :: P,w :: vs,i + 1,m,nd,h1,h2,hk=>by
    show bindL kindOf ((p,w) :: P.zip vs) m x = _
    unfold bindL
    exact bindL_get (i:=i) (List.nodup_cons.mp nd).2 (by simpa using h1) (by simpa using h2) hk
theorem bindC_get {kindOf:Str→Option NameKind} {x:Str} {v:Value}:∀ {P:List Str} {vs:List Value} {i:Nat} {m:Str→Option Value},P.Nodup→P[i]? = some x→vs[i]? = some v→kindOf x ≠ some .local→
    bindC kindOf (P.zip vs) m x = some v
  | [],_,_,_,_,h,_,_=>by simp at h
  | _ :: _,[],_,_,_,_,h,_=>by simp at h
  | p :: P,w :: vs,0,m,nd,h1,h2,hk=>by
    simp at h1 h2; subst h1; subst h2
    show bindC kindOf ((p,w) :: P.zip vs) m p = _
    unfold bindC
    rw [bindC_out fun v hv=>(List.nodup_cons.mp nd).1 (List.of_mem_zip hv).1,if_neg hk]
    simp
  | p :: P,w :: vs,i + 1,m,nd,h1,h2,hk=>by
    show bindC kindOf ((p,w) :: P.zip vs) m x = _
    unfold bindC
    exact bindC_get (i:=i) (List.nodup_cons.mp nd).2 (by simpa using h1) (by simpa using h2) hk
def start (N:List Str) (vs:List V):St:=vs.map some ++ List.replicate (N.length - vs.length) none
def cxOf (CX:CXT) (P:Program) (w:World) (K:PySem.W.Frag) (mg:Str→Option Value) (base:Heap) (N:List Str) (qual:Str) (scope:Scope) (f:Addr) (cd:Value) (A:Around) (outer:List Env) (s:Shared) (H:Hp) (E:XK):Cx where
  prog:=P
  w:=w
  K:=K
  mg:=mg
  base:=base
  A:=A.deeper (envOfC qual scope s.heap.objs.size f cd)
  N:=N
  s₀:=s
  H₀:=H
  env:=envOfC qual scope s.heap.objs.size f cd
  outer:=outer
  stack:=envOfC qual scope s.heap.objs.size f cd :: outer
  ex:=[]
  calm:=true
  fn:=fun _=>true
  pn:=[]
  xe:=fun e s'=>wpAny (model P w) (A.deeper (envOfC qual scope s.heap.objs.size f cd)) (leaving (envOfC qual scope s.heap.objs.size f cd) e) (fun _ s''=>CX outer H s E e s'') (fun e' s''=>CX outer H s E e' s'') s'
theorem cell_has {sc:Scope} {n:Nat} {x:Str} (h:sc.names.lookup x = some .cell):∃ c,(cellsFrom n sc.names []).lookup x = some c:=by
  have q:=PySem.W.cellsFrom_some sc.names n [] (.inl h)
  exact Option.isSome_iff_exists.mp q
theorem inv_start {CX:CXT} {P:Program} {w:World} {K:PySem.W.Frag} {mg:Str→Option Value} {base:Heap} {N ps:List Str} {qual:Str} {scope:Scope} {f:Addr} {cd:Value} {A:Around} {outer:List Env} {s s1:Shared} {H:Hp} {E:XK} {us:List Value} {vs:List V}
    (S:FnScope N ps scope) (hd:A.handled = none) (e0:Env0 P w K mg base A outer s H) (hl:vs.length = ps.length) (r:Vals vs us)
    (x:InCallC s s.heap.objs.size (bindL (envOfC qual scope s.heap.objs.size f cd).kindOf (ps.zip us) fun _=>none) (cellsFrom (s.heap.objs.size + 1) scope.names []) (bindC (envOfC qual scope s.heap.objs.size f cd).kindOf (ps.zip us) fun _=>none) s1) :
    Inv (cxOf CX P w K mg base N qual scope f cd A outer s H E) [] (start N vs) H s1:=by
  have hpl:ps.length ≤ N.length:=by have:=congrArg List.length S.pre; rw [List.length_take] at this; omega
  obtain ⟨h1,tk,rfl,hk⟩:=x.done
  have noA:∀ b:Addr,b ∉ (cxOf CX P w K mg base N qual scope f cd A outer s H E).ex:=fun b z=>absurd (show b ∈ ([]:List Addr) from z) (by simp)
  refine ⟨⟨e0.mod,S.kind,rfl,rfl,Nat.le_refl _,fun y z c h1 h2=>?_,fun y hy=>?_,fun y c _ h=>?_,fun _=>hd,Around.frames_deeper e0.frames,.inr ⟨rfl,rfl⟩,fun b z=>absurd z (noA b),e0.bs,e0.bsz,fun b _ _=>noA b,fun b z=>absurd z (noA b),e0.funs,e0.frf⟩,
    rfl,e0.bare,Un.kept hk,⟨_,x.toInCall.ns,fun i y v h1 h2 h3=>?_⟩,fun y c h=>⟨_,x.cell y c h⟩,e0.hok.fresh (Nat.le_refl _),fun y c h=>?_,fun p hp=>absurd (show p ∈ ([]:List (Addr × Obj)) from hp) (by simp),e0.hok.kept hk,?_⟩
  · exact name_of_addr x.apart (PySem.mem_of_lookup h1) (PySem.mem_of_lookup h2)
  · have hy:scope.names.lookup y = some .cell ∨ scope.names.lookup y = some .free:=hy
    rcases hy with hy | hy
    · exact cell_has hy
    · exact absurd rfl (S.nofree _ (PySem.mem_of_lookup hy))
  · exact Nat.le_of_lt (x.above y c (PySem.mem_of_lookup h))
  · have hi:i < vs.length:=by
      unfold start at h2
      by_cases hi:i < vs.length
      · exact hi
      · rw [List.getElem?_append_right (by simpa using hi)] at h2
        rw [List.getElem?_replicate] at h2
        split at h2 <;> cases h2
    have ha:vs[i]? = some v:=by
      unfold start at h2
      rw [List.getElem?_append_left (by simpa using hi),List.getElem?_map] at h2
      cases e:vs[i]? with
      | none=>rw [e] at h2; cases h2
      | some a=>rw [e] at h2; cases h2; rfl
    obtain ⟨u,hu,rv⟩:=r.get ha
    have hp:ps[i]? = some y:=by
      rw [← S.pre,List.getElem?_take_of_lt (by omega)]; exact h1
    have ndP:ps.Nodup:=by rw [← S.pre]; exact S.nd.sublist (List.take_sublist _ _)
    refine ⟨u,rv,?_⟩
    rcases S.par y (List.mem_of_getElem? hp) with k | k
    · exact .inl ⟨k,bindL_get ndP hp hu k⟩
    · obtain ⟨c,e⟩:=cell_has (n:=s.heap.objs.size + 1) k
      refine .inr ⟨.inl k,c,e,?_⟩
      have q:=x.cell y c e
      rw [bindC_get ndP hp hu (by show scope.names.lookup y ≠ _; rw [k]; decide)] at q
      exact q
  · exact e0.hok.fresh (Nat.le_of_lt (x.above y c (PySem.mem_of_lookup h)))
  · unfold start
    show _ = N.length
    rw [List.length_append,List.length_map,List.length_replicate]
    omega
theorem fn_of {CX:CXT} {P:Program} {w:World} {K:PySem.W.Frag} {mg:Str→Option Value} {base:Heap} {k:Nat} {f:Addr} {name qual:Str} {params:Arguments} {body:List Stmt} {scope:Scope} {dV kV doc pm cdv ct oc:Value} {an od:Option Addr}
    {osl:Array (Option Value)} {N ps:List Str} {sp:Sp} (lk:K.lookup f = some ⟨oc,od,.func (PySem.W.fnOf name qual params body scope dV kV doc pm an cdv ct),osl⟩) (hcd:PySem.W.codeIn K cdv qual = true) (S:FnScope N ps scope)
    (len:∀ vs H Q E,sp vs H Q E→vs.length = ps.length)
    (hbody:∀ (A:Around) (outer:List Env) (s:Shared) (H:Hp) (vs:List V) (Q:VK) (E:XK),Room k (A.deeper (envOfC qual scope s.heap.objs.size f cdv))→sp vs H Q E→
      ∃ t,PSs (cxOf CX P w K mg base N qual scope f cdv A outer s H E) body t∧t { nx:=fun _ H'=>Q .non H',rt:=Q } (start N vs) H) :
    FnOk P w K mg base CX (k + 1) f (PySem.W.fnOf name qual params body scope dV kV doc pm an cdv ct) ps sp:=by
  refine ⟨len,fun A outer s H args us vs Q E hr e0 hb r hsp=>?_⟩
  have hl:=len _ _ _ _ hsp
  have KX:K.In s.heap:=e0.mod.kin.keeps fun b o e=>(e0.bs b o e).1
  have lim:s.heap.NoLimit:=e0.mod.nolimit.keeps fun b o e=>(e0.bs b o e).1
  have hkind:∀ y ∈ ps.zip us,scope.names.lookup y.1 = some .local ∨ (scope.names.lookup y.1 = some .cell∧((cellsFrom (s.heap.objs.size + 1) scope.names []).lookup y.1).isSome = true):=fun ⟨n,v⟩ hy=>by
    rcases S.par n (List.of_mem_zip hy).1 with q | q
    · exact .inl q
    · exact .inr ⟨q,PySem.W.cellsFrom_some _ _ _ (.inl q)⟩
  refine codeAny_call_function hr.depth (KX _ _ lk) rfl S.co S.gen rfl (PySem.W.codeRec_of KX hcd) (hb _ _ _ _ ?_)
  refine wpAny_newFunctionEnv_cells S.kind hkind fun env he s1 x=>?_
  subst he
  refine ⟨lim.keeps x.toInCall.keep,codeAny_func ?_⟩
  obtain ⟨t,ht,hq⟩:=hbody A outer s H vs Q E (hr.deeper _) hsp
  have I:Inv (cxOf CX P w K mg base N qual scope f cdv A outer s H E) [] (start N vs) H s1:=inv_start S hr.hd e0 hl r x
  refine wpAny_mono (ht [] s1 (start N vs) H _ I hq) (fun fl s' hs=>?_) fun e s' hs=>hs
  have fin:∀ {σ':St} {H':Hp} {v:V} {u:Value},Inv (cxOf CX P w K mg base N qual scope f cdv A outer s H E) [] σ' H' s'→RelV v u→Q v H'→CE outer P w H s Q u s':=
    fun {σ' H' v u} J rv q=>⟨v,H',J.os,J.bare,J.base,J.hok,rv,q⟩
  cases fl with
  | ret u=>
    obtain ⟨v,σ',H',J,rv,q⟩:=hs
    exact fin J rv q
  | next=>
    obtain ⟨σ',H',J,q⟩:=hs
    exact fin (v:=V.non) (u:=Value.none) J rfl q
  | brk=>
    obtain ⟨_,_,_,q⟩:=hs
    exact False.elim q
  | cont=>
    obtain ⟨_,_,_,q⟩:=hs
    exact False.elim q
section
variable {X:Cx} {x:Str} {p pos:Pos} {e:Expr} {es:List Expr} {t:TA} {id T:String} {r:List V→Hp→VK→Prop}
def tCB (r:List V→Hp→VK→Prop) (t:TA):TE:=fun σ H Q=>t σ H fun vs H1=>r vs H1 Q
theorem pe_callB (hc : CallR X (.builtin id) r) (hg : Gl X x) (hm : X.mg x = none) (hv : bootBuiltins x = some (.builtin id)) (ha : PA X (e :: es) t) (hn : x ≠ "__name__" := by decide) (hdb : (x == ("__debug__" : Str)) = false := by decide)
    (he:starEach (e :: es) X.env = (false,eval e X.env) :: starEach es X.env:=by rfl) (hpl:(backTo pos (starEach es X.env)).any (·.1) = false:=by rfl):PE X (.Call (.Name x p) (e :: es) [] pos) (tCB r t):=by
  intro pins s σ H Q I h
  refine wpAny_Call_Name_kw (ld_blt I hg hm hv ?_ hn hdb)
  exact PyProof.Rows.callWith_builtin1 (thn (ha pos pins s σ H _ I h) fun us s1 ⟨vs,H1,I1,r1,q1⟩=>hc pins s1 σ H1 vs us Q I1 r1 q1) he hpl
theorem pe_callTy (hc : CallR X (.type T) r) (hg : Gl X x) (hm : X.mg x = none) (hv : bootBuiltins x = some (.type T)) (ha : PA X (e :: es) t) (hn : x ≠ "__name__" := by decide) (hdb : (x == ("__debug__" : Str)) = false := by decide)
    (he:starEach (e :: es) X.env = (false,eval e X.env) :: starEach es X.env:=by rfl) (hpl:(backTo pos (starEach es X.env)).any (·.1) = false:=by rfl):PE X (.Call (.Name x p) (e :: es) [] pos) (tCB r t):=by
  intro pins s σ H Q I h
  refine wpAny_Call_Name_kw (ld_blt I hg hm hv ?_ hn hdb)
  exact PyProof.Rows.callWith_type1 (thn (ha pos pins s σ H _ I h) fun us s1 ⟨vs,H1,I1,r1,q1⟩=>hc pins s1 σ H1 vs us Q I1 r1 q1) he hpl
end
end L2
namespace HT
open PySem PyProof.Rows
section
open PySem.SeqAt
open PySem.AutoSeq1 (wpAny_loadPart')
open PySem.MeetsSeq PySem.MeetsSeq2 PySem.MeetsSeq3
end
end HT
namespace L2
open PySem PySem.Spec PyProof.Rows
def ixN (n:Nat) (i:Int):Option Nat:=if 0 ≤ i then (if i < n then some i.toNat else none) else if -(n:Int) ≤ i then some (i + n).toNat else none
def atI {α:Type} (xs:List α) (i:Int):Option α:=(ixN xs.length i).bind fun j=>xs[j]?
theorem ixN_seq {n:Nat} {i:Int} {j:Nat} (h:ixN n i = some j):seqIndex? i n = some j∧j < n∧-(n:Int) ≤ i∧i < n:=by
  unfold ixN at h
  by_cases h0:0 ≤ i
  · rw [if_pos h0] at h
    by_cases h1:i < n
    · rw [if_pos h1] at h
      have e:i.toNat = j:=Option.some.inj h
      exact ⟨by rw [seqIndex_of h0 h1,e],by omega,by omega,h1⟩
    · rw [if_neg h1] at h; cases h
  · rw [if_neg h0] at h
    by_cases h1:-(n:Int) ≤ i
    · rw [if_pos h1] at h
      have e:(i + n).toNat = j:=Option.some.inj h
      exact ⟨by rw [seqIndex_neg (by omega) h1,e],by omega,h1,by omega⟩
    · rw [if_neg h1] at h; cases h
theorem atI_get {α:Type} {xs:List α} {i:Int} {v:α} (h:atI xs i = some v):∃ j,seqIndex? i xs.length = some j∧xs[j]? = some v∧j < xs.length∧-(xs.length:Int) ≤ i∧i < xs.length:=by
  unfold atI at h
  cases e:ixN xs.length i with
  | none=>rw [e] at h; cases h
  | some j=>
    rw [e] at h
    obtain ⟨h1,h2,h3,h4⟩:=ixN_seq e
    exact ⟨j,h1,h,h2,h3,h4⟩
theorem atI_nat {α:Type} {xs:List α} {j:Nat} {v:α} (h:xs[j]? = some v):atI xs (j:Int) = some v:=by
  have hj:j < xs.length:=(List.getElem?_eq_some_iff.mp h).1
  have e:ixN xs.length (j:Int) = some j:=by
    unfold ixN
    rw [if_pos (by omega),if_pos (by omega)]; simp
  unfold atI; rw [e]; exact h
def PlainIx (b:Expr):Prop:=∀ o i,subscripted b false o i = operate [o,i] (getItem o i)
def IxR (X:Cx) (r:R2):Prop:=
  ∀ (value slice:Expr) (pins:List (Addr × Obj)) (s:Shared) (σ:St) (H:Hp) (x y:V) (v u:Value) (Q:VK),Inv X pins σ H s→RelV x v→RelV y u→r x y H Q→
    subscripted slice false v u = operate [v,u] (getItem v u)→wpAny (model X.prog X.w) X.A (subscriptTail value slice v u) (EP X pins σ Q) X.xe s
def MtR (X:Cx) (id:String) (r:V→List V→Hp→VK→Prop):Prop:=
  ∀ (pins:List (Addr × Obj)) (s:Shared) (σ:St) (H:Hp) (x:V) (xs:List V) (v:Value) (us:List Value) (Q:VK),Inv X pins σ H s→RelV x v→Vals xs us→r x xs H Q→
    wpAny (model X.prog X.w) X.A (call (.builtin id) (v :: us)) (EP X pins σ Q) X.xe s
section
variable {X:Cx} {a b:Expr} {ta tb:TE} {pos:Pos}
theorem pe_ix {r:R2} (hr:IxR X r) (ha:PE X a ta) (hb:PE X b tb) (hs:PlainIx b):PE X (.Subscript a b pos) (tOp r ta tb):=by
  intro pins s σ H Q I h
  exact Subscript_ (binT ha hb I h fun v u s2 x y H2 I2 rx ry q=>hr a b pins s2 σ H2 x y v u Q I2 rx ry q (hs _ _))
def rIxL (K:PySem.W.Frag):R2:=fun x y H Q=>∃ p xs i v,x = .ref p∧y = .int i∧SqL K H p xs∧atI xs i = some v∧Q v H
def rIxT (K:PySem.W.Frag):R2:=fun x y H Q=>∃ p xs i v,x = .ref p∧y = .int i∧SqT K H p xs∧atI xs i = some v∧Q v H
def rIxS:R2:=fun x y H Q=>∃ z i c,x = .str z∧y = .int i∧z.length ≤ sizeLine∧atI z.cps.toList i = some c∧Q (.str ⟨#[c]⟩) H
theorem ix_list:IxR X (rIxL X.K):=by
  intro value slice pins s σ H x y v u Q I rx ry h hs
  obtain ⟨p,xs,i,z,rfl,rfl,hq,he,q⟩:=h
  cases rx
  obtain ⟨t,rfl⟩:=ry
  obtain ⟨its,r,pl,hz⟩:=I.list hq
  obtain ⟨j,h1,h2,h3,h4,h5⟩:=atI_get he
  obtain ⟨w,ew,rw'⟩:=r.get h2
  have hl:=r.length
  have hn:=line63
  have fin:EP X pins σ Q w s:=⟨z,H,I,rw',q⟩
  by_cases h0:0 ≤ i
  · have hj:i.toNat = j:=by
      rw [seqIndex_of h0 h5] at h1
      exact Option.some.inj h1
    exact item_listR pl.isList h0 (by omega) (by rw [hj]; simpa using ew) fin hs
  · have hj:(i + (its.toArray.size:Int)).toNat = j:=by
      rw [seqIndex_neg (by omega) h4] at h1
      rw [List.size_toArray,← hl]
      exact Option.some.inj h1
    exact subscriptTail_builtinR (x:=w) pl.isList.typeIs slot_list_getitem.lookup
      (wpAny_getItem_list_neg (Q:=fun r s'=>r = w∧EP X pins σ Q r s') pl.isList (by omega) (by rw [List.size_toArray] <;> omega) (by omega) (by rw [hj]; simpa using ew) ⟨rfl,fin⟩) hs
theorem ix_tup:IxR X (rIxT X.K):=by
  intro value slice pins s σ H x y v u Q I rx ry h hs
  obtain ⟨p,xs,i,z,rfl,rfl,hq,he,q⟩:=h
  cases rx
  obtain ⟨t,rfl⟩:=ry
  obtain ⟨its,r,pl,hz⟩:=I.tuple hq
  obtain ⟨j,h1,h2,h3,h4,h5⟩:=atI_get he
  obtain ⟨w,ew,rw'⟩:=r.get h2
  have hl:=r.length
  have hn:=line63
  have fin:EP X pins σ Q w s:=⟨z,H,I,rw',q⟩
  exact subscriptTail_builtinR (x:=w) pl.typeIs slot_tuple_getitem.lookup
    (getItem_tuple (j:=j) (Q:=fun r s'=>r = w∧EP X pins σ Q r s') pl (by omega) (by omega) (by rw [List.size_toArray,← hl]; exact h1) (by simpa using ew) ⟨rfl,fin⟩) hs
theorem ix_str:IxR X rIxS:=by
  intro value slice pins s σ H x y v u Q I rx ry h hs
  obtain ⟨z,i,c,rfl,rfl,hz,he,q⟩:=h
  obtain ⟨t,rfl⟩:=rx
  obtain ⟨t',rfl⟩:=ry
  obtain ⟨j,h1,h2,h3,h4,h5⟩:=atI_get he
  have hl:z.cps.toList.length = z.length:=by simp [Str.length]
  rw [hl] at h1 h4 h5
  have hn:=line63
  exact tail_any (typeIs_str s z t) slot_str_getitem.lookup (getItem_str (c:=c) (by
    have e1:decide (i < -(2 ^ 63:Int)) = false:=decide_eq_false (by omega)
    have e2:decide (i ≥ 2 ^ 63) = false:=decide_eq_false (by omega)
    rw [e1,e2,Bool.or_false]) (by rw [h1]; simpa using h2) ⟨.str ⟨#[c]⟩,H,I.tok _,⟨_,rfl⟩,q⟩) hs
theorem call_len_seq:CallR X (.builtin "len") (fun xs H Q=>∃ p ys,xs = [.ref p]∧(SqL X.K H p ys ∨ SqT X.K H p ys)∧Q (.int ys.length) H):=by
  intro pins s σ H xs us Q I r h
  obtain ⟨p,ys,rfl,hq,q⟩:=h
  obtain ⟨u,rfl,rx⟩:=vals1 r
  cases rx
  have hn:=line63
  rcases hq with hq | hq
  · obtain ⟨its,r',pl,hz⟩:=I.list hq
    have hlen:=r'.length
    exact Calls.call_len_list pl.isList (by simp only [List.size_toArray] <;> omega) ⟨.int ys.length,H,I.tok _,⟨s.toks + 1,by rw [List.size_toArray,hlen]⟩,q⟩
  · obtain ⟨its,r',pl,hz⟩:=I.tuple hq
    have hlen:=r'.length
    exact len_tuple pl (by simp only [List.size_toArray] <;> omega) ⟨.int ys.length,H,I.tok _,⟨s.toks + 1,by rw [List.size_toArray,hlen]⟩,q⟩
theorem call_len_str:CallR X (.builtin "len") (fun xs H Q=>∃ z,xs = [.str z]∧z.length ≤ sizeLine∧Q (.int z.length) H):=by
  intro pins s σ H xs us Q I r h
  obtain ⟨z,rfl,hz,q⟩:=h
  obtain ⟨u,rfl,t,rfl⟩:=vals1 r
  have hn:=line63
  exact len_str (by omega) ⟨.int z.length,H,I.tok _,⟨_,rfl⟩,q⟩
theorem call_list_of:CallR X (.type "list") (fun xs H Q=>∃ p ys,xs = [.ref p]∧(SqL X.K H p ys ∨ SqT X.K H p ys)∧∀ l,H l = none→Q (.ref l) (upd H l (.lst ys))):=by
  intro pins s σ H xs us Q I r h
  obtain ⟨p,ys,rfl,hq,q⟩:=h
  obtain ⟨u,rfl,rx⟩:=vals1 r
  cases rx
  have fin:∀ (its:List Value),Vals ys its→ys.length ≤ sizeLine→∀ (h':Heap) (c':Nat),(∀ b o',s.heap.get? b = some o'→h'.get? b = some o')→
      h'.get? s.heap.objs.size = some { cls:=.type "list",dict:=none,data:=.seq its.toArray c',slots:=#[] }→EP X pins σ Q (.ref s.heap.objs.size) { s with heap:=h' }:=fun its r' hz h' c' kp e=>
    ⟨.ref s.heap.objs.size,_,I.laid (t':=s.toks) kp (Nat.le_refl _) (show ObjOk X.prog X.w _ h' _ (.lst ys) from ⟨hz,its,c',r',e⟩),rfl,q _ (I.hok.fresh (Nat.le_refl _))⟩
  rcases hq with hq | hq
  · obtain ⟨its,r',pl,hz⟩:=I.list hq
    have hlen:=r'.length
    obtain ⟨o,ho,hc,n,hd⟩:=pl.isList
    exact call_list_seq p (.inl rfl) ho hc hd (fun h' c' kp e=>fin its r' hz h' c' kp e) (by simp only [List.size_toArray] <;> omega)
  · obtain ⟨its,r',pl,hz⟩:=I.tuple hq
    have hlen:=r'.length
    obtain ⟨o,ho,hc,n,hd⟩:=pl
    exact call_list_seq p (.inr rfl) ho hc hd (fun h' c' kp e=>fin its r' hz h' c' kp e) (by simp only [List.size_toArray] <;> omega)
def tyV (K:PySem.W.Frag) (T:String) (x:V) (H:Hp):Prop:=match x with
  | .str _=>T = "str"
  | .int _=>T = "int"
  | .ref p => (T = "list" ∧ ∃ xs, SqL K H p xs) ∨ (T = "tuple" ∧ ∃ o, K.lookup p = some o ∧ o.cls = .type "tuple" ∧ o.dict = none) ∨
      (T = "dict" ∧ ((∃ kvs, H p = some (.dK kvs)) ∨ ∃ kvs, H p = some (.dT kvs))) ∨ (T = "set" ∧ ∃ S n, H p = some (.set S n))
  | _=>False
theorem tyV_is {pins:List (Addr × Obj)} {σ:St} {H:Hp} {s:Shared} {T:String} {x:V} {v:Value} (I:Inv X pins σ H s) (r:RelV x v) (ty:tyV X.K T x H) :
    s.TypeIs v T∧∀ a,v = .ref a→∃ ob,s.heap.get? a = some ob∧ob.dict = none:=by
  cases x with
  | str z=>
    obtain ⟨t,rfl⟩:=r
    cases (show T = "str" from ty)
    exact ⟨typeIs_str s z t,fun _ e=>nomatch e⟩
  | int i=>
    obtain ⟨t,rfl⟩:=r
    cases (show T = "int" from ty)
    exact ⟨typeIs_int s i t,fun _ e=>nomatch e⟩
  | ref p=>
    cases r
    rcases ty with ⟨rfl,xs,hq⟩ | ⟨rfl,o,hk,hc,hd⟩ | ⟨rfl,hk⟩ | ⟨rfl,S,n,hk⟩
    · obtain ⟨its,_,pl,_⟩:=I.list hq
      refine ⟨pl.isList.typeIs,fun a e=>?_⟩
      cases e
      obtain ⟨o,n,e,c,hd,_⟩:=pl
      exact ⟨o,e,hd⟩
    · refine ⟨⟨o,I.kIn p o hk,hc⟩,fun a e=>?_⟩
      cases e
      exact ⟨o,I.kIn _ o hk,hd⟩
    · have z:∃ o,s.heap.get? p = some o∧o.ExactDict:=by
        rcases hk with ⟨kvs,hk⟩ | ⟨kvs,hk⟩
        · obtain ⟨_,_,_,_,o,_,_,e,ex,_⟩:=I.hok p _ hk
          exact ⟨o,e,ex⟩
        · obtain ⟨_,_,_,_,o,_,_,e,ex,_⟩:=I.hok p _ hk
          exact ⟨o,e,ex⟩
      obtain ⟨o,e,ex⟩:=z
      refine ⟨⟨o,e,ex.1⟩,fun a e2=>?_⟩
      cases e2
      exact ⟨o,e,ex.2.1⟩
    · obtain ⟨o,_,_,_,e,ex,_⟩:=I.hok p _ hk
      refine ⟨⟨o,e,ex.1⟩,fun a e2=>?_⟩
      cases e2
      exact ⟨o,e,ex.2.1⟩
  | _=>exact False.elim ty
def tBM0 (K:PySem.W.Frag) (T:String) (r:V→List V→Hp→VK→Prop) (to:TE):TE:=fun σ H Q=>to σ H fun x H1=>tyV K T x H1∧r x [] H1 Q
def tBM (K:PySem.W.Frag) (T:String) (r:V→List V→Hp→VK→Prop) (to:TE) (t:TA):TE:=fun σ H Q=>to σ H fun x H1=>tyV K T x H1∧t σ H1 fun xs H2=>r x xs H2 Q
variable {o e:Expr} {es:List Expr} {to:TE} {t:TA} {name:Str} {apos cpos:Pos} {T id:String} {r:V→List V→Hp→VK→Prop}
theorem pe_bm0 (pa:PlainAttrs T) (slot:Slot T name id) (hty:typeOf (.builtin id) = pure (.type "method_descriptor")) (hm:MtR X id r) (ho:PE X o to)
    (hbase:attributeBase o name X.env (eval o X.env) = eval o X.env:=by rfl) (hline:(apos.endLine == cpos.line) = true:=by rfl):PE X (.Call (.Attribute o name apos) [] [] cpos) (tBM0 X.K T r to):=by
  intro pins s σ H Q I h
  refine wpAny_Call_method0_late hbase hline (thn (ho pins s σ H _ I h) fun v s1 ⟨x,H1,I1,r1,ty,q1⟩=>?_)
  obtain ⟨h1,h2⟩:=tyV_is I1 r1 ty
  exact ⟨T,id,pa,slot,hty,h1,h2,Calls.callWith_builtin rfl (PySem.evalArgs_none (hm pins s1 σ H1 x [] v [] Q I1 r1 .nil q1))⟩
theorem pe_bm (pa:PlainAttrs T) (slot:Slot T name id) (hty:typeOf (.builtin id) = pure (.type "method_descriptor")) (hm:MtR X id r) (ho:PE X o to) (ha:PA X (e :: es) t)
    (hbase:attributeBase o name X.env (eval o X.env) = eval o X.env:=by rfl)
    (hfew:((backTo cpos (starEach (e :: es) X.env)).all (fun x=>!x.1) && (backToKw cpos (keywordEach [] X.env)).all (fun x=>x.1.isSome)
      && decide ((e :: es).length + ([]:List Keyword).length + (if ([]:List Keyword).isEmpty then 0 else 1) < 30)) = true:=by rfl)
    (hline:(apos.endLine == cpos.line) = true:=by rfl) (hs:starEach (e :: es) X.env = (false,eval e X.env) :: starEach es X.env:=by rfl) (hplain:(backTo cpos (starEach es X.env)).any (·.1) = false:=by rfl) :
    PE X (.Call (.Attribute o name apos) (e :: es) [] cpos) (tBM X.K T r to t):=by
  intro pins s σ H Q I h
  refine wpAny_Call_method_late hbase hfew hline rfl (thn (ho pins s σ H _ I h) fun v s1 ⟨x,H1,I1,r1,ty,q1⟩=>?_)
  obtain ⟨h1,h2⟩:=tyV_is I1 r1 ty
  refine ⟨T,id,pa,slot,hty,h1,h2,?_⟩
  have hA:=ha cpos pins s1 σ H1 _ I1 q1
  rw [hs] at hA ⊢
  refine Calls.callWith_builtin (by show (false || (backTo cpos (starEach es X.env)).any (·.1)) = false; rw [hplain] <;> rfl) (Calls.evalArgs_plain ?_)
  exact thn hA fun us s2 ⟨vs,H2,I2,r2,q2⟩=>hm pins s2 σ H2 x vs v us Q I2 r1 r2 q2
/- xs.append(e),list.index on a module's tuple .. are MtR facts of 06m -/
end
def MtM (X:Cx) (id:String) (r:V→List V→Hp→VK→Prop):Prop:=
  ∀ (pins:List (Addr × Obj)) (s:Shared) (σ:St) (H:Hp) (x:V) (xs:List V) (v:Value) (us:List Value) (Q:VK),Inv X pins σ H s→RelV x v→Vals xs us→r x xs H Q→
    wpAny (model X.prog X.w) X.A (call (.builtin id) (v :: us)) (EP X pins σ Q) X.xe s
theorem Vals.one:∀ {x:V} {us:List Value},Vals [x] us→∃ u,us = [u]∧RelV x u
  | _,_,.cons r .nil=>⟨_,rfl,r⟩
theorem Vals.zero:∀ {us:List Value},Vals [] us→us = []
  | _,.nil=>rfl
section
variable {X:Cx} {pins:List (Addr × Obj)} {σ:St} {H:Hp} {s:Shared} {l b:Addr} {xs ys zs:List V}
theorem Inv.lset {its its':List Value} {n:Nat} {f:Array Value→Array Value} {t':Nat} (I:Inv X pins σ H s) (hH:H l = some (.lst xs))
    (e:s.heap.get? l = some { cls:=.type "list",data:=.seq its.toArray n }) (hf:f its.toArray = its'.toArray) (hv:Vals ys its') (hz:ys.length ≤ sizeLine) :
    Inv X pins σ (upd H l (.lst ys)) { s with heap:=s.heap.update l (Obj.mapSeq f),toks:=t' }:=by
  have q:=PySem.IsL.update e f
  rw [hf] at q
  refine I.write (x:=l) (e:=l) (by rw [hH]; exact trivial) (.inl rfl) (fun b' u hb hu=>(Heap.get?_update_other s.heap (Obj.mapSeq f) (Ne.symm hb)).trans hu) ⟨_,q⟩ ?_
  exact ⟨hz,its',_,hv,q⟩
theorem Inv.lstM (I:Inv X pins σ H s) (hH:H l = some (.lst xs)):xs.length ≤ sizeLine∧∃ (its:List Value) (n:Nat),Vals xs its∧xs.length = its.length∧s.heap.get? l = some { cls:=.type "list",data:=.seq its.toArray n }:=by
  obtain ⟨z,its,n,r,e⟩:=I.hok l _ hH
  exact ⟨z,its,n,r,r.length,e⟩
end
section
variable {X:Cx}
def rAppend:V→List V→Hp→VK→Prop:=fun x vs H Q=>∃ l xs y,x = .ref l∧vs = [y]∧H l = some (.lst xs)∧xs.length < sizeLine∧Q .non (upd H l (.lst (xs ++ [y])))
theorem mt_append:MtM X "list.append" rAppend:=by
  intro pins s σ H x vs v us Q I rx rv h
  obtain ⟨l,xs,y,rfl,rfl,hH,hz,q⟩:=h
  cases rx
  obtain ⟨u,rfl,ru⟩:=rv.one
  obtain ⟨z,its,n,r,hl,e⟩:=I.lstM hH
  refine call_meets F.slot_list_append ⟨_,e,rfl⟩ F.entry_list_append (F.args_list_append_2 _ _) (PySem.list_append l its.toArray n u (by rw [List.size_toArray]; omega)) ⟨e,?_⟩
  refine ⟨.non,_,I.lset (its':=its ++ [u]) hH e (by simp) (r.append (.cons ru .nil)) ?_,rfl,q⟩
  rw [List.length_append,List.length_singleton]
  omega
end
end L2
namespace Att
open PySem PySem.W PySem.Calls PyProof.Rows
theorem ints_of_wellAll {P:Params} {h:Heap}:∀ (ns:List Int) (vs:List Value),WellAll P h vs (ns.map WData.int)→IntsAre vs ns:=by
  intro ns
  induction ns with
  | nil=>
    intro vs w
    rw [List.map_nil] at w
    cases w
    exact .nil
  | cons n ns ih=>
    intro vs w
    rw [List.map_cons] at w
    cases w with
    | cons a b=>
      cases a
      exact .cons _ _ (ih _ b)
theorem script_of {l:OpenLaw} {n:Nat} (hn:l.most = some n) {P:Params} {h:Heap} {args:List WData} {vals:List Value}
    (hpre:l.row.toRowW.claim.pre args = true) (hwl:WellAll P h vals args) :
    ∃ a vs ns,vals = [Value.ref a]∧args = [WData.list (ns.map WData.int)]∧h.get? a = some { cls:=.type "list",data:=.seq vs.toArray }∧IntsAre vs ns∧ns.length ≤ n:=by
  have hsh:WShape.hasAll [] args [.list .int] = true:=(pre_splitW hpre).1
  have hc:l.pre.holds [] { args:=args } = true:=(pre_splitW hpre).2
  obtain ⟨d,r,rfl,h1,h2⟩:=hasAllW_cons hsh
  obtain rfl:=hasAllW_nil h2
  obtain ⟨xs,rfl,h3⟩:=hasW_list h1
  obtain ⟨ns,rfl⟩:=items_int h3
  have hlen:ns.length ≤ n:=by
    unfold OpenLaw.pre at hc
    have h4:(WTm.not (.lt (.lit (.int (n:Int))) (.len (.arg 0)))).holds [] { args:=[.list (ns.map .int)] } = true:=by
      have h4:=(holds_andW hc).1
      rw [hn] at h4
      exact h4
    have h5:=condW_of h4 (w_not (w_lt w_lit (w_len_list (w_arg rfl))))
    rw [List.length_map] at h5
    refine Nat.le_of_not_lt fun q=>?_
    have q':(n:Int) < ((ns.length:Nat):Int):=by omega
    first
      | (rw [decide_eq_true q'] at h5; exact absurd h5 (by decide))
      | (simp at h5; omega)
  cases hwl with
  | cons w1 w2=>
    cases w2
    cases w1 with
    | list ho hall=>exact ⟨_,_,ns,rfl,rfl,ho,ints_of_wellAll ns _ hall,hlen⟩
theorem post_true (l:OpenLaw) (args:List WData):l.row.toRowW.claim.post args (.bool true) args = true:=
  postW_of (r:=l.row.toRowW) (X:=(true == true))
    (show WShape.has [] (.bool true) .bool = true by first | rfl | decide | simp [WShape.has,WShape.arms,WShape.armsAll])
    (show (WTm.eq .res (.lit (.bool true))).value [] { args:=args,res:=some (.bool true),after:=args } = some (.bool (true == true)) from w_eq_bool (w_res rfl) w_lit) rfl
theorem attach_call {l:OpenLaw} {n:Nat} {q:Program} {loose:List Str} {XP:(Str→Option Value)→Heap→Prop} {YP:World→Heap→Prop} {d:DefRec}
    (hn:l.most = some n) (hdf:d.params.defaults = [])
    (call:∀ (w:World) (s₀ s₁:Shared) (mg mb:Str→Option Value) (fa:Addr) (o:Obj) (pm cd doc:Value) (a:Addr) (vs:List Value) (ns:List Int),
      Ground q loose [] XP w s₀ mg mb s₁.heap→YP w s₁.heap→
      s₁.heap.get? fa = some o→o.data = .func (docDef d.name d.params d.body d.scope pm cd doc)→s₁.heap.CodeRec cd d.name→mg d.name = some (.ref fa)→
      s₁.heap.get? a = some { cls:=.type "list",data:=.seq vs.toArray }→IntsAre vs ns→ns.length ≤ n→s₁.gens = #[]→
      codeAny (model l.prog w) callerA (.call (.ref fa) ⟨[.ref a],[]⟩) (fun r s'=>r = .ok (.ret (.bool true))∧OldK s₁.heap s'.heap∧s'.os = s₁.os∧AllBare s'.gens) s₁) :
    WalkO q loose XP YP l.row.toRowW d [] (fun f vs=>PySem.call f vs):=by
  intro w s₀ s₁ mg mb G Y fa o pm cd doc dV kV ho hd hcd hD hmg hg args vals as hpre hlay hrd hwl hlo
  obtain rfl:dV = .none:=Dflts.none hD hdf
  obtain rfl:kV = .none:=Dflts.noKw hD
  obtain ⟨a,vs,ns,rfl,rfl,hobj,hints,hlen⟩:=script_of hn hpre hwl
  refine enter_call (codeAny_mono (call w s₀ s₁ mg mb fa o pm cd doc a vs ns G Y ho (fd_plain hd) hcd hmg hobj hints hlen hg) fun r s' hq=>?_)
  obtain ⟨rfl,h2,h3,h4⟩:=hq
  exact ⟨.inl ⟨.bool true,.bool true,[],rfl,fun _=>rfl,.bool true,post_true l _,fun _=>⟨List.Pairwise.nil,fun _ hm=>(nomatch hm)⟩⟩,h2,h3,h4⟩
end Att
namespace L2
open PySem PySem.Spec PyProof.Rows
theorem vals_ints:∀ {vs:List Value} {ns:List Int},IntsAre vs ns→Vals (ns.map V.int) vs
  | _,_,.nil=>.nil
  | _,_,.cons n t h=>.cons ⟨t,rfl⟩ (vals_ints h)
def Only (H:Hp):Prop:=∀ b,H b = none ∨ ∃ o xs,H b = some (.frz o (.lst xs))
theorem law_call {P:Program} {w:World} {K:PySem.W.Frag} {mg mb:Str→Option Value} {CX:CXT} {k:Nat} {fa a:Addr} {fd:FuncData} {x:Str} {sp:Sp} {s₁:Shared} {vs:List Value} {ns:List Int}
    (KX:K.In s₁.heap) (hns:s₁.heap.Ns mainGlobals mg) (hb:s₁.heap.Ns builtinsNs mb) (hbb:∀ x:Str,x ≠ "__name__"→mb x = bootBuiltins x) (hlim:s₁.heap.NoLimit) (hg:s₁.gens = #[])
    (ha:s₁.heap.get? a = some { cls:=.type "list",data:=.seq vs.toArray }) (hi:IntsAre vs ns) (hl:ns.length ≤ sizeLine) (hr:Room k callerA)
    (F:∀ base:Heap,K.In base→base.Ns mainGlobals mg→FnOk P w K mg base CX k fa fd [x] sp) (hbind:∀ (s:Shared) (u:Value),BindsTo s fd ⟨[u],[]⟩ [(x,u)])
    (hsp:∀ H:Hp,Only H→SqL K H a (ns.map V.int)→sp [.ref a] H (fun v _=>v = .bl true) fun _ _ _=>False)
    (hCX:∀ H e s',CX [] H s₁ (fun _ _ _=>False) e s'→False) :
    codeAny (model P w) callerA (.call (.ref fa) ⟨[.ref a],[]⟩) (fun r s'=>r = .ok (.ret (.bool true))∧OldK s₁.heap s'.heap∧s'.os = s₁.os∧AllBare s'.gens) s₁:=by
  have rv:=vals_ints hi
  have lenV:=hi.length
  -- from an abstract heap in which nothing but the script may be tracked
  have core:∀ H:Hp,Only H→SqL K H a (ns.map V.int)→HOk P w H s₁.heap→(∀ b,H b ≠ none→b = a)→(H a ≠ none→K.lookup a = none)→
      codeAny (model P w) callerA (.call (.ref fa) ⟨[.ref a],[]⟩) (fun r s'=>r = .ok (.ret (.bool true))∧OldK s₁.heap s'.heap∧s'.os = s₁.os∧AllBare s'.gens) s₁:=by
    intro H hO hS hok hA hK
    have base_of:∀ {b:Addr} {o:Obj},s₁.heap.get? b = some o→H b = none→(hidT s₁.heap H).get? b = some o:=fun e n=>hidT_get e n
    have noA:∀ {b:Addr} {o:Obj} {es:Array DictEntry} {ep:Nat},s₁.heap.get? b = some o→o.data = .dict es ep→H b = none:=fun {b o es ep} e d=>by
      cases q:H b with
      | none=>rfl
      | some u=>
        have e':b = a:=hA b (by rw [q]; simp)
        subst e'
        rw [ha] at e; cases e
        have d':Data.seq vs.toArray _ = Data.dict es ep:=d
        cases d'
    have nsK:∀ {b:Addr} {m:Str→Option Value},s₁.heap.Ns b m→(hidT s₁.heap H).Ns b m:=fun {b m} ⟨o,es,ep,e,d,r⟩=>⟨o,es,ep,base_of e (noA e d),d,r⟩
    have hKb:K.In (hidT s₁.heap H):=fun b o e=>base_of (KX b o e) (by
      cases q:H b with
      | none=>rfl
      | some u=>
        have e':b = a:=hA b (by rw [q]; simp)
        subst e'
        rw [hK (by rw [q]; simp)] at e; cases e)
    have hM:Mod K mg (hidT s₁.heap H):=⟨hKb,nsK hns,⟨mb,nsK hb,hbb⟩,let ⟨mc,h1,h2⟩:=hlim; ⟨mc,nsK h1,h2⟩⟩
    have e0:Env0 P w K mg (hidT s₁.heap H) callerA [] s₁ H:=⟨rfl,hM,fun b o e=>of_hidT e,Nat.le_of_eq (hidT_size _ _),trivial,fun b hb=>absurd (show b ∈ ([]:List Addr) from hb) (by simp),hok,.of_eq hg⟩
    refine codeAny_mono ((F _ hKb (nsK hns)).run callerA [] s₁ H ⟨[.ref a],[]⟩ [.ref a] [.ref a] _ _ hr e0 (hbind s₁ (.ref a)) (.cons rfl .nil) (hsp H hO hS)) fun r s' h=>?_
    cases r with
    | error e=>exact (hCX H e s' h).elim
    | ok fl=>
      cases fl with
      | next=>exact False.elim h
      | brk=>exact False.elim h
      | cont=>exact False.elim h
      | ret u=>
        obtain ⟨v,H',os,bare,un,hok',r',q⟩:=h
        have q':v = .bl true:=q
        subst q'
        obtain rfl:u = Value.bool true:=r'
        refine ⟨rfl,OldK.of_keep fun b o e=>?_,os,bare⟩
        cases q:H b with
        | none=>exact un.keep b o e q (by intro z; exact absurd (show b ∈ ([]:List Addr) from z) (by simp)) (by simp)
        | some u=>
          rcases hO b with z | ⟨ob,xs,z⟩
          · rw [q] at z; cases z
          · have z2:=un.frzs b ob _ z
            obtain ⟨e1,_⟩:=hok b _ z
            obtain ⟨e2,_⟩:=hok' b _ z2
            rw [e] at e1; cases e1
            exact e2
  cases hk:K.lookup a with
  | some o=>
    -- the script is one of the module's own objects
    have e:=KX a o hk
    rw [ha] at e
    cases e
    refine core (fun _=>none) (fun _=>.inl rfl) (.inr ⟨_,vs.toArray,_,hk,rfl,rfl,rfl,by rw [List.size_toArray,lenV]; exact hl,by simpa using rv⟩) (fun b u z=>by have z':(none:Option HO) = some u:=z; cases z') (fun b z=>absurd rfl z) fun z=>absurd rfl z
  | none=>
    refine core (fun b => if b = a then some (.frz { cls := .type "list", data := .seq vs.toArray } (.lst (ns.map V.int))) else none) (fun b => ?_) (.inl (.inr ⟨{ cls := .type "list", data := .seq vs.toArray }, if_pos rfl⟩)) (fun b u z => ?_) (fun b z => ?_) fun _ => hk
    · by_cases hb:b = a
      · exact .inr ⟨_,_,if_pos hb⟩
      · exact .inl (if_neg hb)
    · by_cases hb:b = a
      · have z':=(if_pos hb).symm.trans z
        cases z'
        subst hb
        exact ⟨ha,by rw [List.length_map]; exact hl,vs,_,rv,ha⟩
      · have z':=(if_neg hb).symm.trans z
        cases z'
    · by_cases hb:b = a
      · exact hb
      · exact absurd (if_neg hb) z
abbrev KOf {K:PySem.W.Frag} {h:Heap} (_:K.In h):PySem.W.Frag:=K
theorem walk_of {l:PySem.W.OpenLaw} {n k:Nat} {q:Program} {loose:List Str} {XP:(Str→Option Value)→Heap→Prop} {YP:World→Heap→Prop} {d:DefRec} {K:Params→PySem.W.Frag} {CX:World→CXT} {sp:World→Sp} {x:Str}
    (hn:l.most = some n) (hn2:n ≤ sizeLine) (hdf:d.params.defaults = []) (hr:Room k callerA)
    (hY:∀ (w:World) (h:Heap),YP w h→(K w.params).In h)
    (F:∀ (w:World) (mg:Str→Option Value) (fa:Addr) (h:Heap),(K w.params).In h→h.Ns mainGlobals mg→mg d.name = some (.ref fa)→
      ∃ fd:FuncData,(∀ (s:Shared) (u:Value),BindsTo s fd ⟨[u],[]⟩ [(x,u)])∧
        ∀ base:Heap,(K w.params).In base→base.Ns mainGlobals mg→FnOk l.prog w (K w.params) mg base (CX w) k fa fd [x] (sp w))
    (hsp:∀ (w:World) (H:Hp) (a:Addr) (ns:List Int),ns.length ≤ n→Only H→SqL (K w.params) H a (ns.map V.int)→sp w [.ref a] H (fun v _=>v = .bl true) fun _ _ _=>False)
    (hCX:∀ (w:World) (H:Hp) (s:Shared) (e:Value) (s':Shared),CX w [] H s (fun _ _ _=>False) e s'→False) :
    PySem.W.WalkO q loose XP YP l.row.toRowW d [] (fun f vs=>PySem.call f vs):=by
  refine Att.attach_call hn hdf fun w s₀ s₁ mg mb fa o pm cd doc a vs ns G Y ho hd hcd hmg hobj hints hlen hg=>?_
  have KX:=hY w _ Y
  obtain ⟨fd,hb,hF⟩:=F w mg fa _ KX G.T.g hmg
  exact law_call KX G.T.g G.T.b G.T.builtins G.T.nolimit hg hobj hints (Nat.le_trans hlen hn2) hr hF hb (fun H hO hS=>hsp w H a ns hlen hO hS) fun H e s'=>hCX w H s₁ e s'
end L2
/- THE LAST THEOREM (shape; LID,My.* are yours):
   My.Adr: a structure of the addresses that your layer names (classes,functions); My.Txt K t: a structure (Prop) of the equations over K;
   My.txt_mk : {K} {implicit addresses ..} (e1 : nsIn K mainGlobals "law" = some (some (.ref f))) (e2 : K.lookup f = some ⟨oc, od, .func (fnOf "law" "law" params body scope dV kV doc pm an cdv ct), sl⟩) (e3 : codeIn K cdv "law" = true) .. : ∃ t, My.Txt K t
set_option maxRecDepth 100000 in
set_option maxHeartbeats 0 in
theorem PySem.Challenge.cw_LID_holds : PySem.Challenge.rw_LID.Holds := by
  w_on; o_law; k_head; (case hw=>w_witness2)
  k_fill
  refine L2.walk_of (l:=PySem.Challenge.rw_LID) (n:=63) (k:=40) (x:="script") (CX:=fun w=>..) (sp:=fun _=>My.sp_law) rfl (by decide) rfl ⟨rfl,by decide,by decide⟩ (fun w h Y=>PySem.W.kIn_of Y) ?F ?S ?C
  case F=>
    intro w mg fa h KX G hmg
    have T:∃ t,My.Txt (L2.KOf KX) t:=by
      dsimp only [L2.KOf]                          -- K must stand as «<heap const> w.params» for k_is
      refine' My.txt_mk ?e1 ?e2 ?e3 ..
      (case e1=>PySem.W.k_is)                    -- in the order: a name -> its address -> its object -> its parts
      (case e2=>PySem.W.k_is)
      ..
    obtain ⟨t,T⟩:=T
    have e0:=hmg.symm.trans (PySem.W.mg_of KX G T.law)
    cases e0                                       -- fa is the law's own address
    exact ⟨_,fun s u=>.of_eq rfl,fun base kb nb=>My.law_fn T kb nb⟩     -- if «.of_eq rfl» comes too early: refine' ⟨_,?b,fun base kb nb=>My.law_fn T kb nb⟩; exact fun s u=>.of_eq rfl
  case S=>exact fun w H a ns hl hO hS=>..
  case C=>exact ..
(the tactic k_is has no namespace: write k_is) -/
namespace L2
open PySem PySem.Spec PyProof.Rows
def inClass (s:Stmt) (j:Nat):Stmt:=match s with
  | .ClassDef _ _ _ body _ _ _ _ _ _ _=>body.getD j (.Pass ⟨0,0,0,0⟩)
  | _=>.Pass ⟨0,0,0,0⟩
def defArgs (s:Stmt):Arguments:=match s with
  | .FunctionDef _ a _ _ _ _ _ _ _ _=>a
  | _=>{ posonlyargs:=[],args:=[],vararg:=none,kwonlyargs:=[],kw_defaults:=[],kwarg:=none,defaults:=[] }
def defBody (s:Stmt):List Stmt:=match s with
  | .FunctionDef _ _ b _ _ _ _ _ _ _=>b
  | _=>[]
def defScope (s:Stmt):Scope:=match s with
  | .FunctionDef _ _ _ _ _ _ sc _ _ _=>sc
  | _=>{ kind:=.function,names:=[],isGenerator:=false,isCoroutine:=false }
abbrev CX0:CXT:=fun _ _ _ _ _ _=>False
abbrev E0:XK:=fun _ _ _=>False
theorem pass0 {X:Cx}:Passes CX0 X E0:=fun _ _ _ _ _ _ _ h=>h.elim
structure Fun (K:PySem.W.Frag) (x qual:Str) (st:Stmt) (f:Addr) (fd:FuncData):Prop where
  ex:∃ (oc:Value) (od:Option Addr) (kV doc pm:Value) (an:Option Addr) (cdv ct:Value) (osl:Array (Option Value)),
    fd = PySem.W.fnOf x qual (defArgs st) (defBody st) (defScope st) .none kV doc pm an cdv ct∧K.lookup f = some ⟨oc,od,.func fd,osl⟩∧PySem.W.codeIn K cdv qual = true
  kp:PySem.W.keepIn K (.ref f) = true
section
variable {P:Program} {w:World} {K:PySem.W.Frag} {mg:Str→Option Value} {base:Heap}
theorem Fun.ok {x qual:Str} {st:Stmt} {f:Addr} {fd:FuncData} {N ps:List Str} {k:Nat} {sp:Sp} (F:Fun K x qual st f fd) (S:FnScope N ps (defScope st)) (len:∀ vs H Q E,sp vs H Q E→vs.length = ps.length)
    (hbody:∀ (cdv:Value) (A:Around) (outer:List Env) (s:Shared) (H:Hp) (vs:List V) (Q:VK) (E:XK),Room k (A.deeper (envOfC qual (defScope st) s.heap.objs.size f cdv))→sp vs H Q E→
      ∃ t,PSs (cxOf CX0 P w K mg base N qual (defScope st) f cdv A outer s H E).nox (defBody st) t∧t { nx:=fun _ H'=>Q .non H',rt:=Q } (start N vs) H):FnOk P w K mg base CX0 (k + 1) f fd ps sp:=by
  obtain ⟨oc,od,kV,doc,pm,an,cdv,ct,osl,rfl,lk,hcd⟩:=F.ex
  refine fn_of lk hcd S len fun A outer s H vs Q E hr hsp=>?_
  obtain ⟨t,h,q⟩:=hbody cdv A outer s H vs Q E hr hsp
  exact ⟨t,h.nox,q⟩
theorem Fun.binds {x qual:Str} {st:Stmt} {f:Addr} {fd:FuncData} {ps:List Str} (F:Fun K x qual st f fd)
    (h:∀ (kV doc pm:Value) (an:Option Addr) (cdv ct:Value) (us:List Value),us.length = ps.length→bindArgs (PySem.W.fnOf x qual (defArgs st) (defBody st) (defScope st) .none kV doc pm an cdv ct) ⟨us,[]⟩ = pure (ps.zip us)):Binds K fd ps []:=by
  obtain ⟨oc,od,kV,doc,pm,an,cdv,ct,osl,rfl,lk,hcd⟩:=F.ex
  exact .all (h kV doc pm an cdv ct)
theorem fun_mk {x qual:Str} {st:Stmt} {f:Addr} {oc:Value} {od an:Option Addr} {osl:Array (Option Value)} {kV doc pm cdv ct:Value} (l:K.lookup f = some ⟨oc,od,.func (PySem.W.fnOf x qual (defArgs st) (defBody st) (defScope st) .none kV doc pm an cdv ct),osl⟩)
    (c:PySem.W.codeIn K cdv qual = true) (k:PySem.W.keepIn K (.ref f) = true):Fun K x qual st f (PySem.W.fnOf x qual (defArgs st) (defBody st) (defScope st) .none kV doc pm an cdv ct):=⟨⟨oc,od,kV,doc,pm,an,cdv,ct,osl,rfl,l,c⟩,k⟩
end
def Same (H H':Hp):Prop:=∀ b o,H b = some o→H' b = some o
theorem Same.refl (H:Hp):Same H H:=fun _ _ h=>h
theorem Same.trans {H H1 H2:Hp} (a:Same H H1) (b:Same H1 H2):Same H H2:=fun c o h=>b c o (a c o h)
theorem Same.free {H H':Hp} (e:Same H H') {l:Addr} (h:H' l = Option.none):H l = Option.none:=by
  cases q:H l with
  | none=>rfl
  | some o=>
    rw [e l o q] at h
    cases h
theorem Same.seq {K:PySem.W.Frag} {H H':Hp} {a:Addr} {xs:List V} (e:Same H H') (h:SqL K H a xs):SqL K H' a xs:=by
  rcases h with (h | ⟨o,h⟩) | h
  · exact .inl (.inl (e _ _ h))
  · exact .inl (.inr ⟨o,e _ _ h⟩)
  · exact .inr h
theorem compLoop_any {prog:Program} {w:World} {A:Around} {R:Result→Shared→Prop} {s:Shared} {elt target iter:Expr} {ifs:List Expr} {scope:Scope} {pos:Pos} {it acc:Value} {env:Env} (I:Nat→Shared→Prop)
    (turn:∀ n s,I n s→wpAny (model prog w) A (pyNext it) (fun r s₁=>match r with
      | none=>R (.ok .next) s₁
      | some v=>wpAny (model prog w) A (letOwnedTupleGo target it v) (fun _ s₁'=>wpAny (model prog w) A (assign target env v) (fun _ s₂=>
          wpAny (model prog w) A (forIn ifs true fun c r=>if r = true then do let ok ← isTrue c env (eval c env); pure (ForInStep.yield ok) else pure (ForInStep.yield r)) (fun ok s₃=>
            if ok = true then wpAny (model prog w) A (eval elt env) (fun x s₄=>
              wpAny (model prog w) A (call (.builtin "list.append") [acc,x]) (fun _ s₅=>∃ m,m < n∧I m s₅) (fun _ _=>False) s₄) (fun _ _=>False) s₃
            else ∃ m,m < n∧I m s₃) (fun _ _=>False) s₂) (fun _ _=>False) s₁') (fun _ _=>False) s₁) (fun _ _=>False) s)
    (n:Nat) (h:I n s) :
    codeAny (model prog w) A (.compLoop (.ListComp elt [⟨target,iter,ifs,0⟩] scope pos) 0 it acc env) R s:=by
  refine codeAny_loop rfl I (fun n s hI=>?_) n h
  show wpAny _ A ((compTurn (.ListComp elt [⟨target,iter,ifs,0⟩] scope pos) 0 it acc env).onRaise (fun x=>do noteFrame x env; theTreesLotGoes x)) _ _ s
  refine wpAny_noted ?_
  rw [compTurn_list]
  refine wpAny_bind (wpAny_standAt (wpAny_bind (wpAny_mono (turn n s hI) (fun r s₁ h₁=>?_) fun _ _ h'=>h'.elim)))
  cases r with
  | none=>exact wpAny_pure h₁
  | some v=>
    refine wpAny_bind (wpAny_mono h₁ (fun _ s₁' h₁'=>?_) fun _ _ h'=>h'.elim)
    refine wpAny_bind (wpAny_mono h₁' (fun _ s₂ h₂=>wpAny_bind (wpAny_mono h₂ (fun ok s₃ h₃=>?_) fun _ _ h'=>h'.elim)) fun _ _ h'=>h'.elim)
    cases ok with
    | false=>exact wpAny_pure ⟨rfl,h₃⟩
    | true=>
      exact wpAny_bind (wpAny_bind (wpAny_mono h₃ (fun x s₄ h₄=>wpAny_bind (wpAny_mono h₄ (fun _ s₅ h₅=>wpAny_pure (wpAny_pure ⟨rfl,h₅⟩)) fun _ _ h'=>h'.elim)) fun _ _ h'=>h'.elim))
def PTs (X:Cx) (ifs:List Expr) (t:TT):Prop:=
  ∀ (pins:List (Addr × Obj)) (s:Shared) (σ:St) (H:Hp) (Q:Bool→Hp→Prop),Inv X pins σ H s→t σ H Q→
    wpAny (model X.prog X.w) X.A (forIn ifs true fun c r=>if r = true then do let ok ← isTrue c X.env (eval c X.env); pure (ForInStep.yield ok) else pure (ForInStep.yield r)) (TP X pins σ Q) X.xe s
def tYes:TT:=fun _ H Q=>Q true H
theorem pts_nil {X:Cx}:PTs X [] tYes:=fun _ _ _ H _ I h=>wpAny_tests_nil ⟨H,I,h⟩
theorem pts_one {X:Cx} {c:Expr} {t:TT} (h:PT X c t):PTs X [c] t:=fun pins s σ H Q I hw=>wpAny_tests_one (h pins s σ H Q I hw)
theorem closure_ex {env:Env}:∀ (names:List (Str × NameKind)) (acc:List (Str × Addr)),(∀ y ∈ names,y.2 = .free→∃ c,env.cells.lookup y.1 = some c)→(∀ y ∈ acc,env.cells.lookup y.1 = some y.2)→
    ∃ cl:List (Str × Addr),(forIn (m:=Sem) names acc fun (x:Str × NameKind) cs=>if (x.2 == NameKind.free) = true then (do let a ← cellOf env x.1; pure (ForInStep.yield ((x.1,a) :: cs))) else pure (ForInStep.yield cs)) = pure cl∧
      (∀ y ∈ cl,env.cells.lookup y.1 = some y.2)∧(∀ y ∈ acc,y ∈ cl)∧∀ y ∈ names,y.2 = .free→∃ c,(y.1,c) ∈ cl
  | [],acc,_,ha=>⟨acc,rfl,ha,fun _ h=>h,fun _ h=>nomatch h⟩
  | (n,k) :: r,acc,hf,ha=>by
    by_cases hk:k = .free
    · subst hk
      obtain ⟨c,hc⟩:=hf (n,.free) List.mem_cons_self rfl
      obtain ⟨cl,e,h1,h2,h3⟩:=closure_ex r ((n,c) :: acc) (fun y hy=>hf y (List.mem_cons_of_mem _ hy)) (fun y hy=>by
        rcases List.mem_cons.mp hy with rfl | hy
        · exact hc
        · exact ha y hy)
      refine ⟨cl,?_,h1,fun y hy=>h2 y (List.mem_cons_of_mem _ hy),fun y hy hk=>?_⟩
      · rw [List.forIn_cons]
        have e1:cellOf env n = pure c:=by unfold cellOf; rw [hc]
        simp only [beq_self_eq_true,if_true,e1]
        exact e
      · rcases List.mem_cons.mp hy with rfl | hy
        · exact ⟨c,h2 _ List.mem_cons_self⟩
        · exact h3 y hy hk
    · have hb:(k == NameKind.free) = false:=by simpa using hk
      obtain ⟨cl,e,h1,h2,h3⟩:=closure_ex r acc (fun y hy=>hf y (List.mem_cons_of_mem _ hy)) ha
      refine ⟨cl,?_,h1,h2,fun y hy hk'=>?_⟩
      · rw [List.forIn_cons]
        simp only [hb,Bool.false_eq_true,if_false]
        exact e
      · rcases List.mem_cons.mp hy with rfl | hy
        · exact absurd hk' hk
        · exact h3 y hy hk'
theorem closureFor_ex {env:Env} {scope:Scope} (hf:∀ y ∈ scope.names,y.2 = .free→∃ c,env.cells.lookup y.1 = some c) :
    ∃ cl:List (Str × Addr),closureFor scope env = pure cl∧(∀ y ∈ cl,env.cells.lookup y.1 = some y.2)∧∀ y ∈ scope.names,y.2 = .free→∃ c,(y.1,c) ∈ cl:=by
  obtain ⟨cl,e,h1,_,h3⟩:=closure_ex scope.names [] hf (fun _ h=>nomatch h)
  refine ⟨cl,?_,h1,h3⟩
  unfold closureFor
  simp only [bind_pure]
  exact e
abbrev cxComp (X:Cx) (scope:Scope) (cl:List (Str × Addr)) (C:Addr) (N:List Str) (s₀:Shared) (H₀:Hp) (ex:List Addr):Cx where
  prog:=X.prog
  w:=X.w
  K:=X.K
  mg:=X.mg
  base:=X.base
  A:=X.A
  N:=N
  s₀:=s₀
  H₀:=H₀
  env:=compEnvC scope cl C X.env
  outer:=X.stack
  stack:=X.stack
  ex:=ex
  fn:=fun _=>false
  calm:=X.calm
  pn:=[]
  xe:=fun _ _=>False
theorem lookup_mem {α β:Type} [BEq α] [LawfulBEq α] {l:List (α × β)} {x:α} {y:β} (h:l.lookup x = some y):(x,y) ∈ l:=by
  induction l with
  | nil=>cases h
  | cons p r ih=>
    obtain ⟨a,b⟩:=p
    rw [List.lookup_cons] at h
    cases e:(x == a) with
    | true=>rw [e] at h; cases h; rw [eq_of_beq e]; exact List.mem_cons_self
    | false=>rw [e] at h; exact List.mem_cons_of_mem _ (ih h)
theorem mem_lookup {α β:Type} [BEq α] [LawfulBEq α] {l:List (α × β)} {x:α} {y:β} (h:(x,y) ∈ l):∃ z,l.lookup x = some z:=by
  induction l with
  | nil=>cases h
  | cons p r ih=>
    obtain ⟨a,b⟩:=p
    rw [List.lookup_cons]
    cases e:(x == a) with
    | true=>exact ⟨_,rfl⟩
    | false=>
      rcases List.mem_cons.mp h with q | q
      · cases q; simp at e
      · exact ih q
theorem relabel_mem {scope:Scope} {env:Env} {y:Str} {k:NameKind} (h:(y,k) ∈ (relabel scope env).names):(y,k) ∈ scope.names ∨ (k = .cell∧(y,NameKind.free) ∈ scope.names):=by
  unfold relabel at h
  obtain ⟨⟨n,k'⟩,hm,e⟩:=List.mem_map.mp h
  dsimp only at e
  split at e
  · rename_i hc
    cases e
    have:k' = .free:=by
      have:=hc
      simp only [Bool.and_eq_true,beq_iff_eq] at this
      exact this.1.1
    subst this
    exact .inr ⟨rfl,hm⟩
  · cases e; exact .inl hm
theorem lookup_relabel_free {env:Env}:∀ {names:List (Str × NameKind)} {x:Str},names.lookup x = some .free→
    (names.map fun (n,k)=>if (k == NameKind.free && env.scope.kind == .function && env.kindOf n == some .cell) then (n,NameKind.cell) else (n,k)).lookup x = some .cell ∨
    (names.map fun (n,k)=>if (k == NameKind.free && env.scope.kind == .function && env.kindOf n == some .cell) then (n,NameKind.cell) else (n,k)).lookup x = some .free
  | [],_,h=>by simp at h
  | (n,k) :: r,x,h=>by
    have ih:=@lookup_relabel_free env r x
    show List.lookup x ((if (k == NameKind.free && env.scope.kind == .function && env.kindOf n == some .cell) = true then (n,NameKind.cell) else (n,k)) :: _) = _ ∨ List.lookup x ((if (k == NameKind.free && env.scope.kind == .function && env.kindOf n == some .cell) = true then (n,NameKind.cell) else (n,k)) :: _) = _
    cases hx:x == n with
    | true=>
      simp only [List.lookup_cons,hx] at h
      cases h
      by_cases hc:(NameKind.free == NameKind.free && env.scope.kind == .function && env.kindOf n == some .cell) = true
      · rw [if_pos hc]; simp [List.lookup_cons,hx]
      · rw [if_neg hc]; simp [List.lookup_cons,hx]
    | false=>
      simp only [List.lookup_cons,hx] at h
      by_cases hc:(k == NameKind.free && env.scope.kind == .function && env.kindOf n == some .cell) = true
      · rw [if_pos hc]; simp only [List.lookup_cons,hx]; exact ih h
      · rw [if_neg hc]; simp only [List.lookup_cons,hx]; exact ih h
def compSt (fs:List Nat) (σ:St):St:=fs.map fun j=>(σ[j]?).join
def tComp (wi:TI) (fs:List Nat) (tt:TT) (te:TE):TE:=fun σ H Q=>wi σ H fun J H1=>∃ W:Nat→Nat→List V→Hp→Prop,(∃ m,W 0 m [] H1)∧∀ i m ys H,W i m ys H→ys.length ≤ sizeLine∧
  ((J.stop i H∧∀ p,H p = none→Q (.ref p) (upd H p (.lst ys))) ∨
   (J.go i H∧ys.length < sizeLine∧∀ x H',J.yld i H x H'→tt (some x :: compSt fs σ) H' fun b H2=>if b = true then te (some x :: compSt fs σ) H2 fun y H3=>∃ m',m' < m∧W (i + 1) m' (ys ++ [y]) H3 else ∃ m',m' < m∧W (i + 1) m' ys H2))
section
variable {X:Cx}
theorem comp_block {elt iter:Expr} {x:Str} {px pos:Pos} {ifs:List Expr} {scope:Scope} {fs:List (Str × Nat)} {tt:TT} {te:TE}
    {pins:List (Addr × Obj)} {σ:St} {H2:Hp} {s2:Shared} {it:Addr} {fp:List Addr} {tn:Nat→Heap→Prop} {J:It} {cl:List (Str × Addr)} {E:Value→Shared→Prop}
    {P:Value→Addr→Result→Shared→Prop}
    (hc:X.calm = true) (hkind:scope.kind = .function) (hcell:∀ y ∈ scope.names,y.2 ≠ .cell) (hx:scope.names.lookup x = some .local)
    (hnd:(x :: fs.map (·.1)).Nodup) (hfs:∀ f ∈ fs,X.N[f.2]? = some f.1∧(X.env.kindOf f.1 = some .cell ∨ X.env.kindOf f.1 = some .free)∧scope.names.lookup f.1 = some .free)
    (hb:∀ (cl:List (Str × Addr)) (C:Addr) (s₀:Shared) (H₀:Hp) (ex:List Addr),PTs (cxComp X scope cl C (x :: fs.map (·.1)) s₀ H₀ ex) ifs tt∧PE (cxComp X scope cl C (x :: fs.map (·.1)) s₀ H₀ ex) elt te)
    (hcl1:∀ y ∈ cl,X.env.cells.lookup y.1 = some y.2) (hcl2:∀ y ∈ scope.names,y.2 = .free→∃ c,(y.1,c) ∈ cl)
    (I2:Inv X pins σ H2 s2) (T:Turn X.prog X.w X.K (.Name x px) J fp it tn) (st2:tn 0 s2.heap) (f2:∀ b ∈ fp,FpOk X pins H2 b)
    (W:Nat→Nat→List V→Hp→Prop) (Qe:Hp→List V→Prop) (w0:∃ m,W 0 m [] H2)
    (turn:∀ i m ys H,W i m ys H→ys.length ≤ sizeLine∧
      ((J.stop i H∧Qe H ys) ∨
       (J.go i H∧ys.length < sizeLine∧∀ x H',J.yld i H x H'→tt (some x :: compSt (fs.map (·.2)) σ) H' fun b H2=>if b = true then te (some x :: compSt (fs.map (·.2)) σ) H2 fun y H3=>∃ m',m' < m∧W (i + 1) m' (ys ++ [y]) H3 else ∃ m',m' < m∧W (i + 1) m' ys H2)))
    (hP:∀ (D C:Addr) (H':Hp) (s':Shared) (ys:List V) (its:List Value) (m:Str→Option Value),s2.heap.objs.size ≤ C→s2.heap.get? D = none→s2.heap.get? C = none→D ≠ C→H' D = none→H' C = none→s'.heap.Ns C m→s'.heap.PlainList D its.toArray→Vals ys its→ys.length ≤ sizeLine→Qe H' ys→
      Un (frs X.stack) fp H2 H' s2.heap s'.heap→HOk X.prog X.w H' s'.heap→AllBare s'.gens→s'.os = s2.os→P (.ref D) C (.ok .next) s') :
    wpAny (model X.prog X.w) X.A (newList []) (fun acc s₃=>wpAny (model X.prog X.w) X.A (newFunctionEnv scope X.env.globals cl [] X.env.qual none .none (some X.env)) (fun cenv s₄=>
      codeAny (model X.prog X.w) X.A (.compStart (.ListComp elt [⟨.Name x px,iter,ifs,0⟩] scope pos) 0 (.ref it) acc { cenv with scope:=relabel scope X.env }) (P acc cenv.locals) s₄) E s₃) E s2:=by
  refine wpAny_newObj_type (wpAny_newFunctionEnv hcell (by intro y hy; simp at hy) (fun h₁ hns₁ hsb₁=>?_) hkind)
  dsimp only at hns₁ hsb₁ ⊢
  generalize hH2:s2.heap.push { cls:=.type "list",dict:=none,data:=.seq ([]:List Value).toArray } = HH at hns₁ hsb₁ ⊢
  have hC:HH.objs.size = s2.heap.objs.size + 1:=by rw [← hH2,Heap.size_push]
  generalize eD:s2.heap.objs.size = D at *
  generalize eC:HH.objs.size = C at *
  have hDC:D ≠ C:=by rw [hC]; exact Nat.ne_of_lt (Nat.lt_succ_self _)
  have fresh:∀ a,D ≤ a→s2.heap.get? a = none:=fun a ha=>Heap.get?_none_of_le (by rw [eD]; exact ha)
  have hD0:s2.heap.get? D = none:=fresh D (Nat.le_refl _)
  have hC0:s2.heap.get? C = none:=fresh C (by rw [hC]; exact Nat.le_succ _)
  have old:∀ b o,s2.heap.get? b = some o→h₁.get? b = some o:=fun b o e=>hsb₁.extBut b o (fun z=>by rw [z,hC0] at e; cases e) (Heap.get?_push_of_some _ (hH2 ▸ Heap.get?_push_of_some _ e))
  have hacc:h₁.PlainList D #[]:=⟨0,hsb₁.extBut _ _ hDC (Heap.get?_push_of_some _ (hH2 ▸ (eD ▸ Heap.get?_push_size _ rfl)))⟩
  have HD:H2 D = none:=I2.hok.fresh (by rw [eD]; exact Nat.le_refl _)
  have HC:H2 C = none:=I2.hok.fresh (by rw [eD,hC]; exact Nat.le_succ _)
  -- the block's context
  let Y:Cx:=cxComp X scope cl C (x :: fs.map (·.1)) s2 H2 fp
  have lk:∀ y c,cl.lookup y = some c→X.env.cells.lookup y = some c:=fun y c e=>hcl1 (y,c) (lookup_mem e)
  have yok:Y.Ok:=by
    refine ⟨I2.ok.mod,hkind,I2.ok.glob,I2.ok.blt,?_,fun y z c h1 h2=>I2.ok.inj y z c (lk y c h1) (lk z c h2),fun y hy=>?_,fun _ _ h _=>absurd h Bool.false_ne_true,I2.ok.hd,I2.ok.frames,.inl rfl,fun b hb=>?_,I2.bs,?_,fun b o e hb=>?_,fun b hb hz=>?_,I2.stack,I2.stkFree⟩
    · show s2.heap.objs.size ≤ C
      rw [eD,hC]; exact Nat.le_succ _
    · have hy':(relabel scope X.env).names.lookup y = some .cell ∨ (relabel scope X.env).names.lookup y = some .free:=hy
      have hm:(y,NameKind.free) ∈ scope.names:=by
        rcases hy' with e | e
        · rcases relabel_mem (lookup_mem e) with q | ⟨_,q⟩
          · exact absurd rfl (hcell _ q)
          · exact q
        · rcases relabel_mem (lookup_mem e) with q | ⟨q,_⟩
          · exact q
          · cases q
      obtain ⟨c,q⟩:=hcl2 _ hm rfl
      exact mem_lookup q
    · obtain ⟨f0,f1,f3,f4,f5,f6⟩:=f2 b hb
      refine ⟨fun z=>?_,fun y c e=>f5 y c (lk y c e)⟩
      obtain ⟨o,ho,_⟩:=T.obj _ _ st2 b hb
      have z':b = C:=z
      rw [z',hC0] at ho; cases ho
    · exact Nat.le_trans I2.ok.bsz I2.sz
    · obtain ⟨f0,f1,f3,f4,f5,f6⟩:=f2 b hb
      rcases f4 with z | z
      · exact I2.ok.noex b o e z
      · exact absurd (Nat.lt_of_lt_of_le (Heap.lt_size e) (Nat.le_trans I2.ok.bsz z)) (Nat.lt_irrefl _)
    · obtain ⟨f0,f1,f3,f4,f5,f6⟩:=f2 b hb
      rcases List.mem_cons.mp (I2.stkSub b hz) with z | z
      · exact f1 z
      · exact f3 z
  let τ:St:=none :: compSt (fs.map (·.2)) σ
  have hτ:τ.length = (x :: fs.map (·.1)).length:=by simp [τ,compSt]
  obtain ⟨mL,hnL,hlL⟩:=id I2.loc
  have yI:Inv Y [] τ H2 { s2 with heap:=h₁,toks:=s2.toks + ([]:List (Str × Value)).length }:=by
    refine ⟨yok,rfl,I2.bare,Un.kept old,⟨_,hns₁,fun i y v e1 e2 e3=>?_⟩,fun y c e=>?_,HC,fun y c e=>I2.freeC y c (lk y c e),(fun p hp=>nomatch hp),I2.hok.kept old,hτ⟩
    · cases i with
      | zero=>simp [τ] at e2
      | succ i=>
        have e1':(fs.map (·.1))[i]? = some y:=e1
        have e2':(compSt (fs.map (·.2)) σ)[i]? = some (some v):=by simpa [τ] using e2
        rw [List.getElem?_map] at e1'
        cases q:fs[i]? with
        | none=>rw [q] at e1'; cases e1'
        | some f=>
          rw [q] at e1'
          have ey:f.1 = y:=Option.some.inj e1'
          obtain ⟨g1,g2,g3⟩:=hfs f (List.mem_of_getElem? q)
          have e2'':(σ[f.2]?).join = some v:=by
            unfold compSt at e2'
            rw [List.getElem?_map,List.getElem?_map,q] at e2'
            exact Option.some.inj e2'
          have e2c:σ[f.2]? = some (some v):=by
            cases r:σ[f.2]? with
            | none=>rw [r] at e2''; cases e2''
            | some o=>rw [r] at e2''; have e2'':o = some v:=e2''; rw [e2'']
          have vis:Vis X.env.scope f.1:=by
            rcases g2 with g | g
            · exact .inr (.inl g)
            · exact .inr (.inr g)
          obtain ⟨u,ru,lu⟩:=hlL f.2 f.1 v g1 e2c vis
          refine ⟨u,ru,?_⟩
          have lu':∃ c,X.env.cells.lookup f.1 = some c∧s2.heap.IsCell c (some u):=by
            rcases lu with ⟨k,_⟩ | ⟨_,c,e,z⟩
            · rcases g2 with g | g
              · rw [k] at g; cases g
              · rw [k] at g; cases g
            · exact ⟨c,e,z⟩
          obtain ⟨c,hc1,hc2⟩:=lu'
          obtain ⟨c',hm⟩:=hcl2 _ (lookup_mem g3) rfl
          have hm':=hcl1 _ hm
          obtain ⟨c2,hl2⟩:=mem_lookup hm
          have:=lk _ _ hl2
          rw [hc1] at this; cases this
          obtain ⟨oc,ho,hdt⟩:=hc2
          refine .inr ⟨?_,c,by rw [← ey]; exact hl2,oc,old c oc ho,hdt⟩
          rw [← ey]
          exact lookup_relabel_free g3
    · obtain ⟨v,oc,ho,hdt⟩:=I2.cell y c (lk y c e)
      exact ⟨v,oc,old c oc ho,hdt⟩
  have hx':Y.env.scope.names.lookup x = some .local:=lookup_relabel_local hx
  have fpD:∀ b ∈ fp,b ≠ D:=fun b hb z=>by
    obtain ⟨o,ho,_⟩:=T.obj _ _ st2 b hb
    rw [z,hD0] at ho; cases ho
  have stD:D ∉ frs X.stack:=fun hz=>by
    rcases List.mem_cons.mp (I2.stkSub D hz) with z | z
    · have:=I2.lt; rw [eD,← z] at this; exact absurd this (Nat.lt_irrefl _)
    · exact I2.nofs (by rw [eD]; exact Nat.le_refl _) z
  have cellD:∀ y c,cl.lookup y = some c→c ≠ D:=fun y c e z=>by
    obtain ⟨v,oc,ho,_⟩:=I2.cell y c (lk y c e)
    rw [z,hD0] at ho; cases ho
  have stat:∀ {H':Hp} {oD:Obj},(∀ b ∈ fp,H' b = none)→∀ b ∈ fp,FpOk Y [(D,oD)] H' b:=fun hn b hb=>by
    refine ⟨hn b hb,(yok.exf b hb).1,yok.exfs b hb,.inl hb,(yok.exf b hb).2,fun p hp z=>?_⟩
    have hp':p ∈ [(D,_)]:=hp
    rw [List.mem_singleton.mp hp'] at z
    exact fpD b hb z.symm
  obtain ⟨m0,w0⟩:=w0
  have loop:∀ s₃:Shared,s₃ = { s2 with heap:=h₁,toks:=s2.toks + ([]:List (Str × Value)).length }→
      codeAny (model X.prog X.w) X.A (.compLoop (.ListComp elt [⟨.Name x px,iter,ifs,0⟩] scope pos) 0 (.ref it) (.ref D) (compEnvC scope cl C X.env)) (P (.ref D) C) s₃:=by
    rintro s₃ rfl
    refine compLoop_any (fun n s'=>∃ i ys its H',Inv Y [] τ H' s'∧tn i s'.heap∧(∀ b ∈ fp,H' b = none)∧H' D = none∧s'.heap.PlainList D (List.toArray its)∧Vals ys its∧W i n ys H') ?_ m0
      ⟨0,[],[],H2,yI,T.keep _ _ _ st2 (fun b _ o e=>old b o e),fun b hb=>(f2 b hb).1,HD,hacc,.nil,w0⟩
    rintro n s3 ⟨i,ys,its,H3,I3,st3,fr3,hD3,⟨n0,hoD⟩,rv3,w3⟩
    obtain ⟨hz,ht⟩:=turn i n ys H3 w3
    have I3':Inv Y [(D,{ cls:=.type "list",data:=.seq its.toArray n0 })] τ H3 s3:=I3.pins_of fun p hp=>by
      rw [List.mem_singleton.mp hp]
      exact ⟨hoD,hD3,hDC,stD,fun v z=>by cases z⟩
    rcases ht with ⟨stop,q⟩ | ⟨go,hz',step⟩
    · refine thn (T.done Y rfl rfl rfl hc i _ s3 τ H3 _ I3' (stat fr3) st3 stop) fun r s4 ⟨hr,I4⟩=>?_
      subst hr
      obtain ⟨m,hn,_⟩:=I4.loc
      exact hP D C H3 s4 ys its m (by rw [hC]; exact Nat.le_succ _) hD0 hC0 hDC hD3 I4.free hn ⟨n0,(I4.pin (D,_) (List.mem_append_right _ List.mem_cons_self)).1⟩ rv3 hz q I4.base I4.hok I4.bare I4.os
    · refine thn (T.item Y rfl rfl rfl hc i _ s3 τ H3 _ I3' (stat fr3) st3 go) fun r s4 ⟨u,hr,h4⟩=>?_
      subst hr
      refine thn h4 fun _ s5 ⟨x',H5,I5,r5,y5,st5,fr5⟩=>?_
      have I5':=I5.pinned (fp:=fp) (stat fr5) (T.obj _ _ st5)
      refine thn (pg_name (X:=Y) (i:=0) (pos:=px) hnd rfl (.inl hx') (.inr hx') _ s5 τ H5 x' u (fun σ' H'=>σ' = some x' :: compSt (fs.map (·.2)) σ∧H' = H5) I5' r5 ⟨rfl,rfl⟩) fun _ s6 ⟨σ6,H6,I6,e6,e6'⟩=>?_
      subst e6 e6'
      have back:∀ {σ':St} {H':Hp} {s':Shared},Inv Y ([(D,{ cls:=.type "list",data:=.seq its.toArray n0 })] ++ pinsAt fp s5.heap) (some x' :: compSt (fs.map (·.2)) σ) H' s'→
          Inv Y [] τ H' s'∧tn (i + 1) s'.heap∧(∀ b ∈ fp,H' b = none)∧H' D = none∧s'.heap.PlainList D its.toArray:=fun {σ' H' s'} J'=>by
        refine ⟨(J'.pins_of (pins':=[]) (fun p hp=>absurd hp (by simp))).weak rfl fun j v e=>?_,T.keep _ _ _ st5 fun b hb o e=>(J'.pin (b,o) (List.mem_append_right _ (List.mem_append_right _ (mem_pinsAt hb e)))).1,fun b hb=>?_,?_,n0,?_⟩
        · cases j with
          | zero=>cases e
          | succ j=>exact e
        · obtain ⟨o,e,d⟩:=T.obj _ _ st5 b hb
          exact (J'.pin (b,o) (List.mem_append_right _ (List.mem_append_right _ (mem_pinsAt hb e)))).2.1
        · exact (J'.pin (D,_) (List.mem_append_right _ (List.mem_append_left _ List.mem_cons_self))).2.1
        · exact (J'.pin (D,_) (List.mem_append_right _ (List.mem_append_left _ List.mem_cons_self))).1
      refine thn ((hb cl C s2 H2 fp).1 _ s6 _ _ _ I6 (step x' H6 y5)) fun ok s7 ⟨H7,I7,q7⟩=>?_
      cases ok with
      | false=>
        obtain ⟨m',hm,w7⟩:=q7
        obtain ⟨a1,a2,a3,a4,a5⟩:=back (σ':=τ) I7
        exact ⟨m',hm,i + 1,ys,its,H7,a1,a2,a3,a4,a5,rv3,w7⟩
      | true=>
        refine thn ((hb cl C s2 H2 fp).2 _ s7 _ _ _ I7 q7) fun y s8 ⟨yv,H8,I8,ry,m',hm,w8⟩=>?_
        obtain ⟨a1,a2,a3,a4,a5⟩:=back (σ':=τ) I8
        have hlen:=rv3.length
        refine wpAny_list_append_plain (hsz:=by rw [List.size_toArray,← hlen]; exact hz) a5 fun h' hl' hs'=>?_
        refine ⟨m',hm,i + 1,ys ++ [yv],its ++ [y],H8,a1.turned (t':=s8.toks) (it:=D) (fun b o hb e=>hs'.extBut b o hb e) a4 hDC (.inr (by show s2.heap.objs.size ≤ D; rw [eD]; exact Nat.le_refl _)) (fun y c e=>cellD y c e) (fun p hp=>absurd (show p ∈ ([]:List (Addr × Obj)) from hp) (by simp)),T.keep _ _ _ a2 fun b hb o e=>hs'.extBut b o (fpD b hb) e,a3,a4,by simpa using hl',rv3.append (.cons ry .nil),w8⟩
  exact codeAny_compStart_list (loop _ rfl) (T.self X.A 0 _ _ _ (T.keep _ _ _ st2 (fun b _ o e=>old b o e)) (loop _ rfl))
theorem comp_after {pins:List (Addr × Obj)} {σ:St} {H2 H':Hp} {s2 s':Shared} {fp:List Addr} {D C:Addr} {ys:List V} {its:List Value} {h':Heap} {tk:Nat} (I2:Inv X pins σ H2 s2) (f2:∀ b ∈ fp,FpOk X pins H2 b)
    (hD:s2.heap.get? D = none) (hC:s2.heap.get? C = none) (hDC:D ≠ C) (HD:H' D = none) (HC:H' C = none) (pl:s'.heap.PlainList D its.toArray) (rv:Vals ys its) (hz:ys.length ≤ sizeLine)
    (u:Un (frs X.stack) fp H2 H' s2.heap s'.heap) (hok:HOk X.prog X.w H' s'.heap) (hg:AllBare s'.gens) (ho:s'.os = s2.os) (hs:Heap.SameBut C s'.heap h') :
    Inv X pins σ (upd H' D (.lst ys)) { s' with heap:=h',toks:=tk }:=by
  have kC:∀ b o,b ≠ C→s'.heap.get? b = some o→h'.get? b = some o:=fun b o hb e=>hs.extBut b o hb e
  have neC:∀ b o,s2.heap.get? b = some o→b ≠ C:=fun b o e z=>by rw [z,hC] at e; cases e
  have neD:∀ b o,s2.heap.get? b = some o→b ≠ D:=fun b o e z=>by rw [z,hD] at e; cases e
  have trD:∀ b o,H' b = some o→b ≠ D:=fun b o e z=>by rw [z,HD] at e; cases e
  refine I2.call' (ch:=fp) ho ⟨fun b o e n hb hx=>kC b o (neC b o e) (u.keep b o e n hb hx),fun b o e n hb hx=>?_,fun b o e n hx=>?_,fun b o e hx=>?_,fun b xs e=>?_,fun b o w e=>?_,fun b ps e=>?_⟩ (fun b o e=>?_) hg fun b hb=>?_
  · obtain ⟨sl,q⟩:=u.slot b o e n hb hx
    exact ⟨sl,kC b _ (neC b o e) q⟩
  · rw [upd_ne (neD b o e)]; exact u.free b o e n hx
  · obtain ⟨o',q⟩:=u.there b o e hx
    exact ⟨o',kC b _ (neC b o e) q⟩
  · have q:=u.tups b xs e
    rw [upd_ne (trD b _ q)]; exact q
  · have q:=u.frzs b o w e
    rw [upd_ne (trD b _ q)]; exact q
  · obtain ⟨more,q⟩:=u.tbls b ps e
    exact ⟨more,by rw [upd_ne (trD b _ q)]; exact q⟩
  · by_cases hb:b = D
    · subst hb
      rw [upd_same] at e
      cases e
      obtain ⟨n,q⟩:=pl
      exact ⟨hz,its,n,rv,kC b _ hDC q⟩
    · rw [upd_ne hb] at e
      refine (hok b o e).stay (fun c v hc q=>kC c v (fun z=>?_) q) (fun c q=>by rw [upd_ne (trD c _ q)]; exact q) fun c xs q=>by rw [upd_ne (trD c _ q)]; exact q
      rcases hc with hc | hc
      · rw [hc] at z; rw [z,HC] at e; cases e
      · rw [z,HC] at hc; cases hc
  · obtain ⟨f0,f1,f3,f4,f5,f6⟩:=f2 b hb
    exact ⟨f4,f1,f5,f6⟩
theorem pe_comp {elt iter:Expr} {x:Str} {px pos:Pos} {ifs:List Expr} {scope:Scope} (fs:List (Str × Nat)) {wi:TI} {tt:TT} {te:TE}
    (hc:X.calm = true) (hkind:scope.kind = .function) (hcell:∀ y ∈ scope.names,y.2 ≠ .cell) (hnames:∀ y ∈ scope.names,y.2 = .local→scope.names.lookup y.1 = some .local)
    (hfree:∀ y ∈ scope.names,y.2 = .free→X.env.kindOf y.1 = some .cell ∨ X.env.kindOf y.1 = some .free) (hx:scope.names.lookup x = some .local)
    (hnd:(x :: fs.map (·.1)).Nodup) (hfs:∀ f ∈ fs,X.N[f.2]? = some f.1∧(X.env.kindOf f.1 = some .cell ∨ X.env.kindOf f.1 = some .free)∧scope.names.lookup f.1 = some .free)
    (hi:PI X (.Name x px) iter wi)
    (hb:∀ (cl:List (Str × Addr)) (C:Addr) (s₀:Shared) (H₀:Hp) (ex:List Addr),PTs (cxComp X scope cl C (x :: fs.map (·.1)) s₀ H₀ ex) ifs tt∧PE (cxComp X scope cl C (x :: fs.map (·.1)) s₀ H₀ ex) elt te)
    (hs:∀ x,foldedSetIterable iter X.env x = pure x:=by intro _; rfl) :
    PE X (.ListComp elt [⟨.Name x px,iter,ifs,0⟩] scope pos) (tComp wi (fs.map (·.2)) tt te):=by
  intro pins s σ H Q I h
  obtain ⟨cl,hclos,hcl1,hcl2⟩:=closureFor_ex (env:=X.env) (scope:=scope) fun y hy hk=>I.ok.has y.1 (hfree y hy hk)
  rw [eval_ListComp]
  refine wpAny_comprehension_free (use:=none) rfl hs hclos hkind hnames (thn (hi pins s σ H _ I h) fun v s1 h1=>thn h1 fun itv s2 h2=>?_)
  obtain ⟨it,fp,tn,J,H2,e,I2,T,st2,f2,W,w0,turn⟩:=h2
  subst e
  refine comp_block (pins:=pins) hc hkind hcell hx hnd hfs hb hcl1 hcl2 I2 T st2 f2 W (fun H ys=>∀ p,H p = none→Q (.ref p) (upd H p (.lst ys))) w0 turn ?_
  intro D C H' s' ys its m hCs hD hC hDC HD HC hn pl rv hz q u hok hg ho
  exact ⟨m,hn,fun h' hs'=>⟨.ref D,_,comp_after (tk:=s'.toks) I2 f2 hD hC hDC HD HC pl rv hz u hok hg ho hs',rfl,q D HD⟩⟩
def tCompSet (i:Nat) (wi:TI) (fs:List Nat) (tt:TT) (te:TE):TS:=fun D σ H=>tComp wi fs tt te σ H fun v H1=>D.nx (σ.set i (some v)) H1
theorem ps_comp {i:Nat} {y:Str} {py spos:Pos} {elt iter:Expr} {x:Str} {px pos:Pos} {ifs:List Expr} {scope:Scope} (fs:List (Str × Nat)) {wi:TI} {tt:TT} {te:TE}
    (hN:X.N.Nodup) (hy:X.N[i]? = some y) (hyl:X.env.scope.names.lookup y = some .local)
    (hc:X.calm = true) (hkind:scope.kind = .function) (hcell:∀ y ∈ scope.names,y.2 ≠ .cell) (hnames:∀ y ∈ scope.names,y.2 = .local→scope.names.lookup y.1 = some .local)
    (hfree:∀ y ∈ scope.names,y.2 = .free→X.env.kindOf y.1 = some .cell ∨ X.env.kindOf y.1 = some .free) (hx:scope.names.lookup x = some .local)
    (hnd:(x :: fs.map (·.1)).Nodup) (hfs:∀ f ∈ fs,X.N[f.2]? = some f.1∧(X.env.kindOf f.1 = some .cell ∨ X.env.kindOf f.1 = some .free)∧scope.names.lookup f.1 = some .free)
    (hi:PI X (.Name x px) iter wi)
    (hb:∀ (cl:List (Str × Addr)) (C:Addr) (s₀:Shared) (H₀:Hp) (ex:List Addr),PTs (cxComp X scope cl C (x :: fs.map (·.1)) s₀ H₀ ex) ifs tt∧PE (cxComp X scope cl C (x :: fs.map (·.1)) s₀ H₀ ex) elt te)
    (hsw:swapsWith (.ListComp elt [⟨.Name x px,iter,ifs,0⟩] scope pos) (some (.Name y py)) spos.line X.env = pure true)
    (hs:∀ x,foldedSetIterable iter X.env x = pure x:=by intro _; rfl) :
    PS X (.Assign [.Name y py] (.ListComp elt [⟨.Name x px,iter,ifs,0⟩] scope pos) spos) (tCompSet i wi (fs.map (·.2)) tt te):=by
  intro pins s σ H D' I h
  obtain ⟨cl,hclos,hcl1,hcl2⟩:=closureFor_ex (env:=X.env) (scope:=scope) fun y hy hk=>I.ok.has y.1 (hfree y hy hk)
  rw [exec_Assign_Name_used _ _ _ _ hsw]
  refine wpAny_bind (wpAny_standAt (wpAny_bind ?_))
  show wpAny _ X.A (do let _ ← comprehension (.ListComp elt [⟨.Name x px,iter,ifs,0⟩] scope pos) scope X.env _ (newList []) false (eval iter X.env) (some (assign (.Name y py) X.env))) _ _ s
  refine wpAny_bind (wpAny_mono (wpAny_comprehension_free (use:=some (assign (.Name y py) X.env)) (Q:=fun _ s'=>SP X pins D' .next s') rfl hs hclos hkind hnames
    (thn (hi pins s σ H _ I h) fun v s1 h1=>thn h1 fun itv s2 h2=>?_)) (fun _ s' hq=>wpAny_pure (wpAny_pure hq)) fun _ _ e=>e)
  obtain ⟨it,fp,tn,J,H2,e,I2,T,st2,f2,W,w0,turn⟩:=h2
  subst e
  refine comp_block (pins:=pins) hc hkind hcell hx hnd hfs hb hcl1 hcl2 I2 T st2 f2 W (fun H ys=>∀ p,H p = none→D'.nx (σ.set i (some (.ref p))) (upd H p (.lst ys))) w0 turn ?_
  intro D C H' s' ys its m hCs hD hC hDC HD HC hn pl rv hz q u hok hg ho
  show wpAny _ X.A (assign (.Name y py) X.env (.ref D)) _ _ _
  -- store,with the block's frame still there
  have J:=comp_after (tk:=s'.toks) I2 f2 hD hC hDC HD HC pl rv hz u hok hg ho (Heap.SameBut.refl C s'.heap)
  refine wpAny_assign_Name (store_ok2 J hN hy (.inl hyl) (v:=.ref D) (u:=.ref D) rfl (fun s3 J3 ⟨a,sb,ha⟩=>?_) (.inr hyl))
  have exL:∃ o,s2.heap.get? X.env.locals = some o:=let ⟨_,⟨o,_,_,e,_⟩,_⟩:=I2.loc; ⟨o,e⟩
  have cellC:∀ z c,X.env.cells.lookup z = some c→c ≠ C:=fun z c e q=>by
    obtain ⟨v,oc,ho,_⟩:=I2.cell z c e
    rw [q,hC] at ho; cases ho
  have aC:a ≠ C:=by
    rcases ha with z | z
    · obtain ⟨o,e⟩:=exL
      intro q
      rw [← z,q,hC] at e; cases e
    · exact cellC y a z
  have LC:C ≠ X.env.locals:=fun q=>by
    obtain ⟨o,e⟩:=exL
    rw [← q,hC] at e; cases e
  refine ⟨m,hn.sameBut sb (Ne.symm aC),fun h' hs'=>?_⟩
  exact ⟨_,_,J3.turned (t':=s3.toks) (it:=C) (fun b o hb e=>hs'.extBut b o hb e) (by rw [upd_ne (Ne.symm hDC)]; exact HC) LC (.inr (Nat.le_trans I2.sz hCs)) cellC (fun p hp z=>by
    have:=(I2.pin p hp).1
    rw [z,hC] at this; cases this),q D HD⟩
end
end L2
namespace L2
open PySem PySem.Spec PyProof.Rows PySem.Builtin.Str
def txt (l:List Nat):Str:=⟨l.toArray⟩
theorem txt_codes (x:Str):txt x.cps.toList = x:=by cases x; simp [txt]
theorem codes_txt (l:List Nat):(txt l).cps.toList = l:=by simp [txt]
theorem txt_len (l:List Nat):(txt l).length = l.length:=by simp [txt,Str.length]
theorem txt_inj {a b:List Nat}:txt a = txt b ↔ a = b:=⟨fun h=>by simpa [txt] using h,fun h=>by rw [h]⟩
theorem txt_app (a b:List Nat):txt a ++ txt b = txt (a ++ b):=by
  show Str.mk (a.toArray ++ b.toArray) = _
  simp [txt]
section
variable {X:Cx}
def rstripL (p:Nat→Bool) (l:List Nat):List Nat:=(l.reverse.dropWhile p).reverse
theorem rstrip_eq (p:Nat→Bool) (l:List Nat):Txt.stripBy p false true (txt l) = txt (rstripL p l):=by
  have hlen:(l.reverse.takeWhile p).length + (l.reverse.dropWhile p).length = l.length:=by
    have:=congrArg List.length (List.takeWhile_append_dropWhile (p:=p) (l:=l.reverse))
    rw [List.length_append,List.length_reverse] at this
    exact this
  have hpre:l.take (l.length - (l.reverse.takeWhile p).length) = rstripL p l:=by
    have e:l = rstripL p l ++ (l.reverse.takeWhile p).reverse:=by
      have:=congrArg List.reverse (List.takeWhile_append_dropWhile (p:=p) (l:=l.reverse))
      rw [List.reverse_append,List.reverse_reverse] at this
      exact this.symm
    have hl:(rstripL p l).length = l.length - (l.reverse.takeWhile p).length:=by unfold rstripL; rw [List.length_reverse]; omega
    have h:=List.take_left (l₁:=rstripL p l) (l₂:=(l.reverse.takeWhile p).reverse)
    rw [← e,hl] at h
    exact h
  unfold Txt.stripBy stripSame stripped stripLo stripHi
  simp only [Bool.false_eq_true,if_false,if_true,codes_txt,List.drop_zero,txt_len]
  have e2:strSub (txt l) 0 (l.length - (l.reverse.takeWhile p).length) = txt (rstripL p l):=by
    rw [← hpre]
    simp [strSub,txt,List.extract_eq_take_drop]
  split
  · rename_i hc
    have hc':l.length - (l.reverse.takeWhile p).length = l.length:=by simpa using hc
    rw [← hpre,hc',List.take_length]
  · exact e2
def rRstrip:V→List V→Hp→VK→Prop:=fun x vs H Q=>∃ l m,x = .str (txt l)∧vs = [.str (txt m)]∧l.length ≤ sizeLine∧Q (.str (txt (rstripL (fun c=>m.contains c) l))) H
theorem mt_rstrip:MtR X "str.rstrip" rRstrip:=by
  intro pins s σ H x vs v us Q I rx rv h
  obtain ⟨l,m,rfl,rfl,hz,q⟩:=h
  obtain ⟨t,rfl⟩:=rx
  obtain ⟨u,rfl,t',rfl⟩:=rv.one
  refine call_gives F.slot_str_rstrip (typeIs_str _ _ _) F.entry_str_rstrip (F.args_str_rstrip_2 _ _) (gives_str_rstrip_chars _ _ t t') ?_
  refine post_val_or_made (fun _=>fits_stripped _ _ _ (by rw [txt_len]; exact hz)) fun t' k=>⟨.str (txt (rstripL (fun c=>m.contains c) l)),H,I.tok _,⟨t',?_⟩,q⟩
  have e:(txt m).cps.contains = fun c=>m.contains c:=by funext c; simp [txt]
  show Value.str (Txt.stripBy (txt m).cps.contains false true (txt l)) t' = _
  rw [e,rstrip_eq]
theorem occ_one {l:List Nat} {c:Nat} (h:c ∈ l):∃ rest,occurrences (txt l) (txt [c]) 0 (txt l).length 1 = l.idxOf c :: rest:=by
  have hf:=PyProof.Rows.find_whole (txt l) (txt [c])
  have hlt:=List.idxOf_lt_length_iff.mpr h
  have at_:∀ i,StrLaws.At (txt l) (txt [c]) (txt l).length i ↔ l[i]? = some c:=fun i=>by
    unfold StrLaws.At subAt
    rw [txt_len,txt_len]
    simp only [txt,List.extract_toArray,List.extract_eq_take_drop,List.length_cons,List.length_nil]
    rw [List.getElem?_eq_some_iff]
    constructor
    · rintro ⟨h1,h2⟩
      have h3:i < l.length:=by omega
      refine ⟨h3,?_⟩
      have h4:(l.drop i).take 1 = [c]:=by simpa using h2
      rw [List.drop_eq_getElem_cons h3] at h4
      have h5:[l[i]] = [c]:=h4
      injection h5
    · rintro ⟨h1,h2⟩
      refine ⟨by omega,?_⟩
      have h4:(l.drop i).take (i + (0 + 1) - i) = [c]:=by
        rw [List.drop_eq_getElem_cons h1,h2]
        have:i + (0 + 1) - i = 1:=by omega
        rw [this]; rfl
      rw [h4]; simp
  have hi:l[l.idxOf c]? = some c:=by rw [List.getElem?_eq_getElem hlt]; congr 1; exact List.getElem_idxOf hlt
  rcases hf with ⟨_,hn⟩ | ⟨i,e,ha,hb⟩
  · exact absurd ((at_ _).mpr hi) (hn _)
  · have hi2:=(at_ i).mp ha
    have ei:i = l.idxOf c:=by
      have h1:¬ l.idxOf c < i:=fun z=>hb _ z ((at_ _).mpr hi)
      have h2:l.idxOf c ≤ i:=by
        obtain ⟨h3,h4⟩:=List.getElem?_eq_some_iff.mp hi2
        have:=List.idxOf_lt_length_iff.mpr h
        rcases Nat.lt_or_ge i (l.idxOf c) with z | z
        · exfalso
          have:=List.not_of_lt_findIdx (p:=(· == c)) (xs:=l) (i:=i) (by simpa [List.idxOf] using z)
          simp [h4] at this
        · exact z
      omega
    unfold Txt.find at e
    cases ho:occurrences (txt l) (txt [c]) 0 (txt l).length 1 with
    | nil=>rw [ho] at e; simp only at e; omega
    | cons a r=>
      rw [ho] at e
      have ea:(a:Int) = (i:Int):=e
      have ea':a = i:=by omega
      exact ⟨r,by rw [ea',ei]⟩
def rIndex:V→List V→Hp→VK→Prop:=fun x vs H Q=>∃ l c,x = .str (txt l)∧vs = [.str (txt [c])]∧c ∈ l∧Q (.int (l.idxOf c:Nat)) H
theorem mt_index:MtR X "str.index" rIndex:=by
  intro pins s σ H x vs v us Q I rx rv h
  obtain ⟨l,c,rfl,rfl,hm,q⟩:=h
  obtain ⟨t,rfl⟩:=rx
  obtain ⟨u,rfl,t',rfl⟩:=rv.one
  obtain ⟨rest,ho⟩:=occ_one hm
  exact call_gives F.slot_str_index (typeIs_str _ _ _) F.entry_str_index (F.args_str_index_2 _ _) (gives_str_index _ _ t t' _ rest ho) ⟨.int _,H,I.tok _,⟨_,rfl⟩,q⟩
theorem op_in1:OpR X (compareOp .In) (fun x y H Q=>∃ c l,x = .str (txt [c])∧y = .str (txt l)∧Q (.bl (decide (c ∈ l))) H):=by
  intro pins s σ H x y v u Q I rx ry h
  obtain ⟨c,l,rfl,rfl,q⟩:=h
  obtain ⟨t,rfl⟩:=rx
  obtain ⟨t',rfl⟩:=ry
  refine in_str (fin_bl I q ?_)
  have:=StrLaws.found_one (txt l) c
  rw [codes_txt] at this
  exact this.symm
theorem op_ltS:OpR X (compareOp .Lt) (fun x y H Q=>∃ i j,x = .str (txt i)∧y = .str (txt j)∧Q (.bl (decide (i < j))) H):=by
  intro pins s σ H x y v u Q I rx ry h
  obtain ⟨i,j,rfl,rfl,q⟩:=h
  obtain ⟨t,rfl⟩:=rx
  obtain ⟨t',rfl⟩:=ry
  exact lt_str (fin_bl I q (by rw [codes_txt,codes_txt]))
theorem op_geS:OpR X (compareOp .GtE) (fun x y H Q=>∃ i j,x = .str (txt i)∧y = .str (txt j)∧Q (.bl (!decide (i < j))) H):=by
  intro pins s σ H x y v u Q I rx ry h
  obtain ⟨i,j,rfl,rfl,q⟩:=h
  obtain ⟨t,rfl⟩:=rx
  obtain ⟨t',rfl⟩:=ry
  exact PySem.P.ge_str (fin_bl I q (by rw [codes_txt,codes_txt]))
theorem op_addS:OpR X (binaryOp .Add) (fun x y H Q=>∃ i j,x = .str (txt i)∧y = .str (txt j)∧i.length + j.length ≤ sizeLine∧Q (.str (txt (i ++ j))) H):=by
  intro pins s σ H x y v u Q I rx ry h
  obtain ⟨i,j,rfl,rfl,hz,q⟩:=h
  exact op_add_str pins s σ H _ _ v u Q I rx ry ⟨_,_,rfl,rfl,by rw [txt_len,txt_len]; exact hz,by rw [txt_app]; exact q⟩
theorem ix_strL:IxR X (fun x y H Q=>∃ (l:List Nat) (i:Nat) (c:Nat),x = .str (txt l)∧y = .int i∧l.length ≤ sizeLine∧l[i]? = some c∧Q (.str (txt [c])) H):=by
  intro pins s σ H value slice x y v u Q I rx ry h hs
  obtain ⟨l,i,c,rfl,rfl,hz,e,q⟩:=h
  exact ix_str pins s σ H value slice _ _ v u Q I rx ry ⟨_,_,c,rfl,rfl,by rw [txt_len]; exact hz,by rw [codes_txt]; exact atI_nat e,q⟩ hs
theorem call_lenS:CallR X (.builtin "len") (fun xs H Q=>∃ z,xs = [.str (txt z)]∧z.length ≤ sizeLine∧Q (.int z.length) H):=by
  intro pins s σ H xs us Q I r h
  obtain ⟨z,rfl,hz,q⟩:=h
  exact call_len_str pins s σ H _ us Q I r ⟨_,rfl,by rw [txt_len]; exact hz,by rw [txt_len]; exact q⟩
end
end L2
namespace L2
open PySem PySem.Spec PyProof.Rows PySem.Builtin.Str
def joinL (sep:List Nat):List (List Nat)→List Nat
  | []=>[]
  | y :: r=>r.foldl (fun acc p=>acc ++ sep ++ p) y
theorem foldl_cps (sep:List Nat):∀ (r:List (List Nat)) (y:List Nat),((r.map txt).foldl (fun acc p=>acc ++ (txt sep).cps ++ p.cps) y.toArray) = (r.foldl (fun acc p=>acc ++ sep ++ p) y).toArray
  | [],y=>rfl
  | a :: r,y=>by
    rw [List.map_cons,List.foldl_cons,List.foldl_cons,← foldl_cps sep r (y ++ sep ++ a)]
    congr 1
    simp [txt]
theorem join_txt (sep:List Nat) (ys:List (List Nat)):Txt.join (txt sep) (ys.map txt) = txt (joinL sep ys):=by
  cases ys with
  | nil=>rfl
  | cons y r=>
    show (⟨_⟩:Str) = _
    have:=foldl_cps sep r y
    show (⟨(((y :: r).map txt).drop 1).foldl (fun acc p=>acc ++ (txt sep).cps ++ p.cps) (((y :: r).map txt).headD Str.empty).cps⟩:Str) = _
    simp only [List.map_cons,List.drop_one,List.tail_cons,List.headD_cons]
    have e:(txt y).cps = y.toArray:=rfl
    rw [e,this]; rfl
theorem foldl_nilsep:∀ (r:List (List Nat)) (y:List Nat),r.foldl (fun acc p=>acc ++ [] ++ p) y = y ++ r.flatten
  | [],y=>by simp
  | a :: r,y=>by rw [List.foldl_cons,foldl_nilsep r]; simp
theorem joinL_nil (ys:List (List Nat)):joinL [] ys = ys.flatten:=by
  cases ys with
  | nil=>rfl
  | cons y r=>show r.foldl (fun acc p=>acc ++ [] ++ p) y = _; rw [foldl_nilsep]; rfl
theorem strsAre_of:∀ {ys:List Str} {us:List Value},Vals (ys.map V.str) us→StrsAre us ys
  | [],_,.nil=>.nil
  | y :: ys,_,.cons ⟨t,e⟩ r=>by subst e; exact .cons y t (strsAre_of r)
theorem vals_strs:∀ {us:List Value} {ys:List Str},StrsAre us ys→Vals (ys.map V.str) us
  | _,_,.nil=>.nil
  | _,_,.cons y t r=>.cons ⟨t,rfl⟩ (vals_strs r)
def strV (l:List Nat):V:=.str (txt l)
theorem map_strV (ys:List (List Nat)):ys.map strV = (ys.map txt).map V.str:=by rw [List.map_map]; rfl
section
variable {X:Cx}
def rJoin (K:PySem.W.Frag):V→List V→Hp→VK→Prop:=fun x vs H Q=>∃ sep p ys,x = .str (txt sep)∧vs = [.ref p]∧SqL K H p (ys.map strV)∧(ys.map (·.length)).sum + ys.length * sep.length ≤ 16777216∧Q (.str (txt (joinL sep ys))) H
theorem mt_join:MtR X "str.join" (rJoin X.K):=by
  intro pins s σ H x vs v us Q I rx rv h
  obtain ⟨sep,p,ys,rfl,rfl,hx,hz,q⟩:=h
  obtain ⟨t,rfl⟩:=rx
  obtain ⟨u,rfl,ru⟩:=rv.one
  cases ru
  obtain ⟨its,r,pl,hl⟩:=I.list hx
  rw [map_strV] at r
  refine join_list pl.isList (ys:=ys.map txt) (by simpa using strsAre_of r) ?_ fun t' k=>⟨.str (txt (joinL sep ys)),H,I.tok _,⟨t',by rw [join_txt]⟩,q⟩
  rw [List.map_map,List.length_map,txt_len]
  have:((fun x=>x.length) ∘ txt:List Nat→Nat) = fun l=>l.length:=by funext l; exact txt_len l
  rw [this]; exact hz
def Its (l:List Nat):It:=⟨fun i _=>i < l.length,fun i H x H'=>H' = H∧∃ c,l[i]? = some c∧x = .str (txt [c]),fun i _=>l.length ≤ i⟩
theorem strTy (x:Str):strIterType x = "str_ascii_iterator" ∨ strIterType x = "str_iterator":=by
  unfold strIterType
  split
  · exact .inl rfl
  · exact .inr rfl
theorem walks_str {prog:Program} {w:World} {A:Around} (hh:A.handled = none) (I:Addr) (x:Str) (t:Tok):Walks prog w A I [I] [I] x.cps.size (SignAt x) (fun i h=>h.IsStrIter I (strIterType x) x t i):=by
  rcases strTy x with e | e
  · rw [e]; exact Walks.strAscii hh I x t
  · rw [e]; exact Walks.strWide hh I x t
theorem turn_str {P:Program} {w:World} {K:PySem.W.Frag} {tg:Expr} (it:Addr) (l:List Nat) (t:Tok):Turn P w K tg (Its l) [it] it (fun i h=>h.IsStrIter it (strIterType (txt l)) (txt l) t i) where
  mem:=by simp
  obj:=fun i h st b hb=>by
    have e:b = it:=by simpa using hb
    subst e
    obtain ⟨o,e,c,d⟩:=st
    exact ⟨o,e,fun v z=>by rw [d] at z; cases z⟩
  keep:=fun i h h' st k=>let ⟨o,ho,r⟩:=st; ⟨o,k it (by simp) o ho,r⟩
  item:=by
    intro X hP hw hK hc i pins s σ H E I hf st hg
    subst hP hw hK
    obtain ⟨f0,f1,f2,f3,f4,f5⟩:=hf it (by simp)
    have W:=walks_str (prog:=X.prog) (w:=X.w) (I.ok.hd hc) it (txt l) t
    have hg':i < (txt l).cps.size:=by have:i < l.length:=hg; simpa [txt] using this
    refine W.item i s _ _ hg' st fun v h' tk hv st' kk=>?_
    obtain ⟨c,u,hc',rfl⟩:=hv
    have I1:Inv X pins σ H { s with heap:=h',toks:=tk }:=I.turned (fun b o hb e=>kk b o (by simpa using hb) e) f0 f1 f3 f4 f5
    obtain ⟨o,e,cc,d⟩:=id st'
    have hn : ["enumerate", "zip", "dict_itemiterator", "dict_reverseitemiterator", "odict_iterator", "itertools.zip_longest", "itertools.pairwise"].contains (strIterType (txt l)) = false := by
      rcases strTy (txt l) with e | e <;> (rw [e]; decide)
    exact ⟨_,rfl,go_of (s:={ s with heap:=h',toks:=tk }) e cc d hn ⟨.str (txt [c]),H,I1,⟨u,rfl⟩,⟨rfl,c,by simpa [txt] using hc',rfl⟩,st',fun b hb=>(hf b hb).1⟩⟩
  done:=by
    intro X hP hw hK hc i pins s σ H E I hf st hg
    subst hP hw hK
    obtain ⟨f0,f1,f2,f3,f4,f5⟩:=hf it (by simp)
    have hg':l.length ≤ i:=hg
    obtain ⟨o,e,cc,d⟩:=id st
    have fin:∀ h',Heap.ExtBut it s.heap h'→(none:Option Value) = none∧Inv X pins σ H { s with heap:=h' }:=fun h' eb=>⟨rfl,I.turned (t':=s.toks) (fun b o hb e=>eb b o hb e) f0 f1 f3 f4 f5⟩
    have hx:(txt l).cps[i]? = none:=by simpa [txt] using hg'
    rcases strTy (txt l) with e | e
    · rw [e] at st
      exact wpAny_pyNext_ascii_end (I.ok.hd hc) st hx fin
    · rw [e] at st
      exact wpAny_pyNext_wide_end (I.ok.hd hc) st hx fin
  self:=fun _ _ _ _ _ st h=>by
    rcases strTy (txt l) with e | e
    · rw [e] at st; exact wpAny_pyIter_striter_ascii st h
    · rw [e] at st; exact wpAny_pyIter_striter_wide st h
def iStr (tl:TE):TI:=fun σ H R=>tl σ H fun x H1=>∃ l,x = .str (txt l)∧R (Its l) H1
theorem pi_str {tg l:Expr} {tl:TE} (hl:PE X l tl):PI X tg l (iStr tl):=by
  intro pins s σ H R I h
  refine thn (hl pins s σ H _ I h) fun v s1 ⟨x,H1,I1,r1,q1⟩=>?_
  obtain ⟨l',e,q⟩:=q1
  subst e
  obtain ⟨t,rfl⟩:=r1
  refine wpAny_pyIter_strU ?_
  refine ⟨s1.heap.objs.size,[s1.heap.objs.size],_,_,H1,rfl,I1.kept (t':=s1.toks) fun b o e=>Heap.get?_push_of_some _ e,turn_str _ l' t,⟨_,Heap.get?_push_size _ rfl,rfl,rfl⟩,fun b hb=>?_,q⟩
  have e:b = s1.heap.objs.size:=by simpa using hb
  subst e
  exact I1.fpOk (Nat.le_refl _) (I1.hok.fresh (Nat.le_refl _))
theorem ltCps_txt (a b:List Nat):ltCps a b = decide (a < b):=by
  first | exact ltCps_eq a b | (rw [ltCps_eq])
theorem rising_pw:∀ (r:List (List Nat)) (p:List Nat),risingS (txt p) (r.map txt) = true→(p :: r).Pairwise (· ≤ ·)
  | [],p,_=>List.pairwise_singleton _ _
  | x :: r,p,h=>by
    rw [List.map_cons] at h
    unfold risingS at h
    rw [Bool.and_eq_true,codes_txt,codes_txt,ltCps_txt] at h
    have h1:p ≤ x:=by
      have:=h.1
      simp only [Bool.not_eq_true',decide_eq_false_iff_not] at this
      exact List.not_lt.mp this
    have ih:=rising_pw r x h.2
    refine List.pairwise_cons.mpr ⟨fun y hy=>?_,ih⟩
    rcases List.mem_cons.mp hy with e | hy
    · rw [e]; exact h1
    · exact List.le_trans h1 ((List.pairwise_cons.mp ih).1 y hy)
theorem sortedS_pw (l:List (List Nat)) (h:sortedS (l.map txt) = true):l.Pairwise (· ≤ ·):=by
  cases l with
  | nil=>exact .nil
  | cons x r=>exact rising_pw r x h
theorem reads_strs {h:Heap}:∀ {us:List Value} {ys:List Str},StrsAre us ys→ReadsAll h us (ys.map PyData.str) []
  | _,_,.nil=>.nil
  | _,_,.cons y t r=>.cons (as:=[]) (bs:=[]) (.str y t) (reads_strs r)
theorem canLay_strs:∀ ys:List Str,(∀ y ∈ ys,PyData.strOk y = true)→PyData.canLayAll0 (ys.map PyData.str) = true
  | [],_=>rfl
  | y :: r,h=>by simp [PyData.canLayAll0,PyData.canLay0,h y List.mem_cons_self,canLay_strs r fun z hz=>h z (List.mem_cons_of_mem _ hz)]
theorem depth_strs:∀ ys:List Str,PyData.depthAll (ys.map PyData.str) = 0
  | []=>rfl
  | _ :: r=>by simp [PyData.depthAll,PyData.depth,depth_strs r]
theorem shaped_strs (ys:List Str) (h:∀ y ∈ ys,PyData.strOk y = true):SeqAt.shaped (.list (ys.map PyData.str)) = true:=by
  simp [SeqAt.shaped,PyData.canLay0,PyData.depth,canLay_strs ys h,depth_strs]
theorem eqv_strs:∀ xs ys:List Str,PyData.eqvAll (xs.map PyData.str) (ys.map PyData.str) = decide (xs = ys)
  | [],[]=>by simp [PyData.eqvAll]
  | [],_ :: _=>by simp [PyData.eqvAll]
  | _ :: _,[]=>by simp [PyData.eqvAll]
  | a :: r,b :: t=>by
    simp only [List.map_cons,PyData.eqvAll,PyData.eqv,eqv_strs r t]
    by_cases h:a = b <;> by_cases h':r = t <;> simp [h,h']
theorem txts_inj {a b:List (List Nat)}:a.map txt = b.map txt ↔ a = b:=⟨fun h=>by
    have:=congrArg (List.map fun x:Str=>x.cps.toList) h
    rw [List.map_map,List.map_map] at this
    have e2:((fun x:Str=>x.cps.toList) ∘ txt) = id:=by funext l; exact codes_txt l
    rwa [e2,List.map_id,List.map_id] at this,fun h=>by rw [h]⟩
theorem op_neLS (hu:X.A.units + 64 < cLine):OpR X (compareOp .NotEq) (fun x y H Q=>∃ a b,∃ xs ys:List (List Nat),x = .ref a∧y = .ref b∧SqL X.K H a (xs.map strV)∧SqL X.K H b (ys.map strV)∧(∀ y ∈ xs,PyData.strOk (txt y) = true)∧(∀ y ∈ ys,PyData.strOk (txt y) = true)∧Q (.bl (!decide (xs = ys))) H):=by
  intro pins s σ H x y v u Q I rx ry h
  obtain ⟨a,b,xs,ys,rfl,rfl,ha,hb,ox,oy,q⟩:=h
  cases rx
  cases ry
  obtain ⟨ia,ra,pa,_⟩:=I.list ha
  obtain ⟨ib,rb,pb,_⟩:=I.list hb
  obtain ⟨oa,na,ea,ca,_,da⟩:=pa
  obtain ⟨ob,nb,eb,cb,_,db⟩:=pb
  rw [map_strV] at ra rb
  refine ne_dataH (Reads.list ea ca da (reads_strs (by simpa using strsAre_of ra))) (Reads.list eb cb db (reads_strs (by simpa using strsAre_of rb))) (shaped_strs (xs.map txt) (by simpa using ox)) (shaped_strs (ys.map txt) (by simpa using oy)) hu (fin_bl I q ?_)
  simp only [PyData.eqv,eqv_strs]
  congr 1
  exact decide_eq_decide.mpr txts_inj.symm
theorem op_eqLS (hu:X.A.units + 64 < cLine):OpR X (compareOp .Eq) (fun x y H Q=>∃ a b,∃ xs ys:List (List Nat),x = .ref a∧y = .ref b∧SqL X.K H a (xs.map strV)∧SqL X.K H b (ys.map strV)∧(∀ y ∈ xs,PyData.strOk (txt y) = true)∧(∀ y ∈ ys,PyData.strOk (txt y) = true)∧Q (.bl (decide (xs = ys))) H):=by
  intro pins s σ H x y v u Q I rx ry h
  obtain ⟨a,b,xs,ys,rfl,rfl,ha,hb,ox,oy,q⟩:=h
  cases rx
  cases ry
  obtain ⟨ia,ra,pa,_⟩:=I.list ha
  obtain ⟨ib,rb,pb,_⟩:=I.list hb
  obtain ⟨oa,na,ea,ca,_,da⟩:=pa
  obtain ⟨ob,nb,eb,cb,_,db⟩:=pb
  rw [map_strV] at ra rb
  refine eq_dataH (Reads.list ea ca da (reads_strs (by simpa using strsAre_of ra))) (Reads.list eb cb db (reads_strs (by simpa using strsAre_of rb))) (shaped_strs (xs.map txt) (by simpa using ox)) (shaped_strs (ys.map txt) (by simpa using oy)) hu (fin_bl I q ?_)
  simp only [PyData.eqv,eqv_strs]
  exact decide_eq_decide.mpr txts_inj.symm
end
end L2
namespace L2
open PySem PySem.Spec PyProof.Rows PySem.Builtin.Str
section
variable {X:Cx}
structure CompOk (X:Cx) (scope:Scope) (x:Str) (fs:List (Str × Nat)):Prop where
  kind:scope.kind = .function
  cell:∀ y ∈ scope.names,y.2 ≠ .cell
  names:∀ y ∈ scope.names,y.2 = .local→scope.names.lookup y.1 = some .local
  free:∀ y ∈ scope.names,y.2 = .free→X.env.kindOf y.1 = some .cell ∨ X.env.kindOf y.1 = some .free
  hx:scope.names.lookup x = some .local
  nd:(x :: fs.map (·.1)).Nodup
  fs:∀ f ∈ fs,X.N[f.2]? = some f.1∧(X.env.kindOf f.1 = some .cell ∨ X.env.kindOf f.1 = some .free)∧scope.names.lookup f.1 = some .free
def compLook (names:List (Str × NameKind)) (outer:List (Str × NameKind)) (N:List Str) (x:Str) (fs:List (Str × Nat)):Bool:=
  (names.all fun y=>y.2 != .cell) && (names.all fun y=>y.2 != .local || names.lookup y.1 == some .local) &&
  (names.all fun y=>y.2 != .free || outer.lookup y.1 == some .cell || outer.lookup y.1 == some .free) && (names.lookup x == some .local) &&
  decide ((x :: fs.map (·.1)).Nodup) && (fs.all fun f=>decide (N[f.2]? = some f.1) && (outer.lookup f.1 == some .cell || outer.lookup f.1 == some .free) && names.lookup f.1 == some .free)
theorem compOk_of {scope:Scope} {x:Str} {fs:List (Str × Nat)} (hk:scope.kind = .function) (h:compLook scope.names X.env.scope.names X.N x fs = true):CompOk X scope x fs:=by
  unfold compLook at h
  simp only [Bool.and_eq_true,List.all_eq_true,decide_eq_true_eq,Bool.or_eq_true,bne_iff_ne,beq_iff_eq] at h
  obtain ⟨⟨⟨⟨⟨h1,h2⟩,h3⟩,h4⟩,h5⟩,h6⟩:=h
  refine ⟨hk,fun y hy=>h1 y hy,fun y hy e=>?_,fun y hy e=>?_,h4,h5,fun f hf=>?_⟩
  · rcases h2 y hy with z | z
    · exact absurd e z
    · exact z
  · rcases h3 y hy with (z | z) | z
    · exact absurd e z
    · exact .inl z
    · exact .inr z
  · obtain ⟨⟨a,b⟩,c⟩:=h6 f hf
    exact ⟨a,b,c⟩
theorem pe_compB {elt iter:Expr} {x:Str} {px pos:Pos} {ifs:List Expr} {scope:Scope} (fs:List (Str × Nat)) {wi:TI} {tt:TT} {te:TE} (hc:X.calm = true)
    (hi:PI X (.Name x px) iter wi)
    (hb:∀ (cl:List (Str × Addr)) (C:Addr) (s₀:Shared) (H₀:Hp) (ex:List Addr),PTs (cxComp X scope cl C (x :: fs.map (·.1)) s₀ H₀ ex) ifs tt∧PE (cxComp X scope cl C (x :: fs.map (·.1)) s₀ H₀ ex) elt te)
    (hk:scope.kind = .function:=by rfl) (hl:compLook scope.names X.env.scope.names X.N x fs = true:=by kernel_rfl)
    (hs:∀ x,foldedSetIterable iter X.env x = pure x:=by intro _; rfl) :
    PE X (.ListComp elt [⟨.Name x px,iter,ifs,0⟩] scope pos) (tComp wi (fs.map (·.2)) tt te):=
  let O:=compOk_of (X:=X) hk hl
  pe_comp fs hc O.kind O.cell O.names O.free O.hx O.nd O.fs hi hb hs
theorem ps_compB {i:Nat} {y:Str} {py spos:Pos} {elt iter:Expr} {x:Str} {px pos:Pos} {ifs:List Expr} {scope:Scope} (fs:List (Str × Nat)) {wi:TI} {tt:TT} {te:TE}
    (hN:X.N.Nodup) (hy:X.N[i]? = some y) (hyl:X.env.scope.names.lookup y = some .local) (hc:X.calm = true)
    (hi:PI X (.Name x px) iter wi)
    (hb:∀ (cl:List (Str × Addr)) (C:Addr) (s₀:Shared) (H₀:Hp) (ex:List Addr),PTs (cxComp X scope cl C (x :: fs.map (·.1)) s₀ H₀ ex) ifs tt∧PE (cxComp X scope cl C (x :: fs.map (·.1)) s₀ H₀ ex) elt te)
    (hk:scope.kind = .function:=by rfl) (hl:compLook scope.names X.env.scope.names X.N x fs = true:=by kernel_rfl)
    (hsw:swapsWith (.ListComp elt [⟨.Name x px,iter,ifs,0⟩] scope pos) (some (.Name y py)) spos.line X.env = pure true:=by rfl)
    (hs:∀ x,foldedSetIterable iter X.env x = pure x:=by intro _; rfl) :
    PS X (.Assign [.Name y py] (.ListComp elt [⟨.Name x px,iter,ifs,0⟩] scope pos) spos) (tCompSet i wi (fs.map (·.2)) tt te):=
  let O:=compOk_of (X:=X) hk hl
  ps_comp fs hN hy hyl hc O.kind O.cell O.names O.free O.hx O.nd O.fs hi hb hsw hs
theorem comp_range {lo:Int} {n:Nat} {σ:St} {fs:List Nat} {tt:TT} {te:TE} {H:Hp} {Q:VK} (Pv:Nat→List V→Hp→Prop) (h0:Pv 0 [] H) (hl:∀ i ys H,i ≤ n→Pv i ys H→ys.length ≤ i) (hn:n ≤ sizeLine)
    (hs:∀ i ys H,i < n→Pv i ys H→∀ R:List V→Hp→Prop,(∀ ys' H',Pv (i + 1) ys' H'→R ys' H')→tt (some (.int (lo + i)) :: compSt fs σ) H fun b H2=>if b = true then te (some (.int (lo + i)) :: compSt fs σ) H2 fun y H3=>R (ys ++ [y]) H3 else R ys H2)
    (hd:∀ ys H,Pv n ys H→∀ p,H p = none→Q (.ref p) (upd H p (.lst ys))) :
    ∃ W:Nat→Nat→List V→Hp→Prop,(∃ m,W 0 m [] H)∧∀ i m ys H,W i m ys H→ys.length ≤ sizeLine∧
      (((Itr lo n).stop i H∧∀ p,H p = none→Q (.ref p) (upd H p (.lst ys))) ∨
       ((Itr lo n).go i H∧ys.length < sizeLine∧∀ x H',(Itr lo n).yld i H x H'→tt (some x :: compSt fs σ) H' fun b H2=>if b = true then te (some x :: compSt fs σ) H2 fun y H3=>∃ m',m' < m∧W (i + 1) m' (ys ++ [y]) H3 else ∃ m',m' < m∧W (i + 1) m' ys H2)):=by
  refine ⟨fun i m ys H=>m = n - i∧i ≤ n∧Pv i ys H,⟨n,by simp,Nat.zero_le _,h0⟩,?_⟩
  rintro i m ys H ⟨rfl,hi,p⟩
  have hle:=hl i ys H hi p
  refine ⟨by omega,?_⟩
  by_cases hlt:i < n
  · refine .inr ⟨hlt,by omega,fun x H' y=>?_⟩
    obtain ⟨e,y⟩:=y
    subst e y
    exact hs i ys _ hlt p (fun ys' H'=>∃ m',m' < n - i∧m' = n - (i + 1)∧i + 1 ≤ n∧Pv (i + 1) ys' H') fun ys' H' q=>⟨n - (i + 1),by omega,rfl,hlt,q⟩
  · have e:i = n:=by omega
    subst e
    exact .inl ⟨Nat.le_refl _,hd ys H p⟩
theorem comp_str {l:List Nat} {σ:St} {fs:List Nat} {tt:TT} {te:TE} {H:Hp} {Q:VK} (Pv:Nat→List V→Hp→Prop) (h0:Pv 0 [] H) (hl:∀ i ys H,i ≤ l.length→Pv i ys H→ys.length ≤ i) (hn:l.length ≤ sizeLine)
    (hs:∀ i c ys H,l[i]? = some c→Pv i ys H→∀ R:List V→Hp→Prop,(∀ ys' H',Pv (i + 1) ys' H'→R ys' H')→tt (some (.str (txt [c])) :: compSt fs σ) H fun b H2=>if b = true then te (some (.str (txt [c])) :: compSt fs σ) H2 fun y H3=>R (ys ++ [y]) H3 else R ys H2)
    (hd:∀ ys H,Pv l.length ys H→∀ p,H p = none→Q (.ref p) (upd H p (.lst ys))) :
    ∃ W:Nat→Nat→List V→Hp→Prop,(∃ m,W 0 m [] H)∧∀ i m ys H,W i m ys H→ys.length ≤ sizeLine∧
      (((Its l).stop i H∧∀ p,H p = none→Q (.ref p) (upd H p (.lst ys))) ∨
       ((Its l).go i H∧ys.length < sizeLine∧∀ x H',(Its l).yld i H x H'→tt (some x :: compSt fs σ) H' fun b H2=>if b = true then te (some x :: compSt fs σ) H2 fun y H3=>∃ m',m' < m∧W (i + 1) m' (ys ++ [y]) H3 else ∃ m',m' < m∧W (i + 1) m' ys H2)):=by
  refine ⟨fun i m ys H=>m = l.length - i∧i ≤ l.length∧Pv i ys H,⟨l.length,by simp,Nat.zero_le _,h0⟩,?_⟩
  rintro i m ys H ⟨rfl,hi,p⟩
  have hle:=hl i ys H hi p
  refine ⟨by omega,?_⟩
  by_cases hlt:i < l.length
  · refine .inr ⟨hlt,by omega,fun x H' y=>?_⟩
    obtain ⟨e,c,hc,y⟩:=y
    subst e y
    exact hs i c ys _ hc p (fun ys' H'=>∃ m',m' < l.length - i∧m' = l.length - (i + 1)∧i + 1 ≤ l.length∧Pv (i + 1) ys' H') fun ys' H' q=>⟨l.length - (i + 1),by omega,rfl,hlt,q⟩
  · have e:i = l.length:=by omega
    subst e
    exact .inl ⟨Nat.le_refl _,hd ys H p⟩
theorem pe_txt {x:Str} {l:List Nat} {j pos} (h:x = txt l):PE X (.Constant (.str x) j pos) (tC (.str (txt l))):=by subst h; exact pe_str
end
def ABC:List Nat:=(List.range 26).map (97 + ·)
theorem small_eq:("abcdefghijklmnopqrstuvwxyz":Str) = txt ABC:=by decide +kernel
theorem abc_len:ABC.length = 26:=by decide
theorem abc_at {i:Nat} (h:i < 26):ABC[i]? = some (97 + i):=by
  unfold ABC
  rw [List.getElem?_map,List.getElem?_range h]; rfl
abbrev rAddI:R2:=rI0 fun i j=>.int (i + j)
abbrev rSubI:R2:=rI0 fun i j=>.int (i - j)
abbrev rDivI:R2:=rI CDiv fun i j=>.int (i / j)
abbrev rModI:R2:=rI (fun _ j=>0 < j) fun i j=>.int (i % j)
abbrev rShrI:R2:=rI (fun _ j=>0 ≤ j) fun i j=>.int (i / 2 ^ j.toNat)
abbrev rLtI:R2:=rI0 fun i j=>.bl (decide (i < j))
abbrev rLeI:R2:=rI0 fun i j=>.bl (decide (i ≤ j))
abbrev rGtI:R2:=rI0 fun i j=>.bl (decide (j < i))
abbrev rGeI:R2:=rI0 fun i j=>.bl (decide (j ≤ i))
def CMulB (i j:Int):Prop:=CMul i j ∨ (Builtin.Int.intBits i ≤ 2 ^ 20∧Builtin.Int.intBits j ≤ 2 ^ 20)
theorem CMulB.l {i j:Int} (h1:-(2 ^ 64) < i) (h2:i < 2 ^ 64):CMulB i j:=.inl (.inl ⟨h1,h2⟩)
theorem CMulB.r {i j:Int} (h1:-(2 ^ 64) < j) (h2:j < 2 ^ 64):CMulB i j:=.inl (.inr ⟨h1,h2⟩)
abbrev rMulI:R2:=rI CMulB fun i j=>.int (i * j)
abbrev rAddS:R2:=fun x y H Q=>∃ i j,x = .str (txt i)∧y = .str (txt j)∧i.length + j.length ≤ sizeLine∧Q (.str (txt (i ++ j))) H
abbrev rIxStr:R2:=fun x y H Q=>∃ (l:List Nat) (i:Nat) (c:Nat),x = .str (txt l)∧y = .int i∧l.length ≤ sizeLine∧l[i]? = some c∧Q (.str (txt [c])) H
abbrev rIn1:R2:=fun x y H Q=>∃ c l,x = .str (txt [c])∧y = .str (txt l)∧Q (.bl (decide (c ∈ l))) H
abbrev rLtS:R2:=fun x y H Q=>∃ i j,x = .str (txt i)∧y = .str (txt j)∧Q (.bl (decide (i < j))) H
abbrev rGeS:R2:=fun x y H Q=>∃ i j,x = .str (txt i)∧y = .str (txt j)∧Q (.bl (!decide (i < j))) H
abbrev rLenS:List V→Hp→VK→Prop:=fun xs H Q=>∃ z,xs = [.str (txt z)]∧z.length ≤ sizeLine∧Q (.int z.length) H
abbrev rLenL (K:PySem.W.Frag):List V→Hp→VK→Prop:=fun xs H Q=>∃ p ys,xs = [.ref p]∧(SqL K H p ys ∨ SqT K H p ys)∧Q (.int ys.length) H
abbrev rMin2:List V→Hp→VK→Prop:=fun xs H Q=>∃ i j,xs = [.int i,.int j]∧Q (.int (if j < i then j else i)) H
abbrev rInt1:List V→Hp→VK→Prop:=fun xs H Q=>(∃ i,xs = [.int i]∧Q (.int i) H) ∨ ∃ k,xs = [.bl k]∧Q (.int (if k then 1 else 0)) H
abbrev rListOf (K:PySem.W.Frag):List V→Hp→VK→Prop:=fun xs H Q=>∃ p ys,xs = [.ref p]∧(SqL K H p ys ∨ SqT K H p ys)∧∀ l,H l = none→Q (.ref l) (upd H l (.lst ys))
abbrev rNeLS (K:PySem.W.Frag):R2:=fun x y H Q=>∃ a b,∃ xs ys:List (List Nat),x = .ref a∧y = .ref b∧SqL K H a (xs.map strV)∧SqL K H b (ys.map strV)∧(∀ y ∈ xs,PyData.strOk (txt y) = true)∧(∀ y ∈ ys,PyData.strOk (txt y) = true)∧Q (.bl (!decide (xs = ys))) H
abbrev rEqLS (K:PySem.W.Frag):R2:=fun x y H Q=>∃ a b,∃ xs ys:List (List Nat),x = .ref a∧y = .ref b∧SqL K H a (xs.map strV)∧SqL K H b (ys.map strV)∧(∀ y ∈ xs,PyData.strOk (txt y) = true)∧(∀ y ∈ ys,PyData.strOk (txt y) = true)∧Q (.bl (decide (xs = ys))) H
section
variable {X:Cx}
theorem op_mulB:OpR X (binaryOp .Mult) rMulI:=opI fun _ _ _ _ _ _ _ hc q=>mul_int q (by
  rcases hc with h | h
  · exact h.ok
  · exact IntMulOk.of_bits h.1 h.2)
theorem pe_gstr {x y:Str} {l:List Nat} {pos:Pos} (hg:Gl X x) (hm:∃ t,X.mg x = some (.str y t)) (e:y = txt l) (hd:(x == ("__debug__":Str)) = false:=by decide):PE X (.Name x pos) (tC (.str (txt l))):=by
  obtain ⟨t,hm⟩:=hm
  subst e
  exact pe_glob hg hm ⟨t,rfl⟩ hd
end
theorem SqL.here {K:PySem.W.Frag} {H:Hp} {p:Addr} {xs:List V}:SqL K (upd H p (.lst xs)) p xs:=.inl (.inl upd_same)
theorem Same.new {H H':Hp} {p:Addr} {o:HO} (s:Same H H') (hp:H' p = none):Same H (upd H' p o):=fun b q e=>by
  have:=s b q e
  rw [upd_ne (ne_of_none this hp)]; exact this
theorem Same.up (H:Hp) {p:Addr} {o:HO} (hp:H p = none):Same H (upd H p o):=(Same.refl H).new hp
theorem atI_int {α:Type} {xs:List α} {i:Int} {v:α} (h0:0 ≤ i) (h:xs[i.toNat]? = some v):atI xs i = some v:=by
  obtain ⟨n,rfl⟩:=Int.eq_ofNat_of_zero_le h0
  exact atI_nat (by simpa using h)
theorem for_r1 {ta:TA} {g:TG} {tb:TS} {D:Ends} {σ:St} {H:Hp} {j:Int} (ha:∀ Q:List V→Hp→Prop,Q [.int j] H→ta σ H Q) (hlo:-(2 ^ 62) ≤ j) (hhi:j < 2 ^ 62)
    (Pv:Nat→St→Hp→Prop) (h0:Pv 0 σ H) (hs:∀ (i:Nat) σ H,(i:Int) < j→Pv i σ H→g (.int i) σ H fun σ2 H2=>tb { D with nx:=Pv (i + 1),ct:=Pv (i + 1),bk:=D.nx } σ2 H2)
    (hd:∀ σ H,Pv j.toNat σ H→D.nx σ H):tFor (iRng1 ta) g tb D σ H:=by
  refine ha _ ⟨j,rfl,hlo,hhi,?_⟩
  refine for_range (lo:=0) (n:=j.toNat) Pv h0 (fun i σ H hi p=>?_) hd
  rw [Int.zero_add]
  exact hs i σ H (by omega) p
theorem for_l {K:PySem.W.Frag} {tl:TE} {g:TG} {tb:TS} {D:Ends} {σ:St} {H:Hp} {a:Addr} {xs:List V} (ha:∀ Q:VK,Q (.ref a) H→tl σ H Q) (hx:SqL K H a xs)
    (Pv:Nat→St→Hp→Prop) (h0:Pv 0 σ H) (hl:∀ i σ H,i ≤ xs.length→Pv i σ H→SqL K H a xs)
    (hs:∀ i x σ H,xs[i]? = some x→Pv i σ H→g x σ H fun σ2 H2=>tb { D with nx:=Pv (i + 1),ct:=Pv (i + 1),bk:=D.nx } σ2 H2) (hd:∀ σ H,Pv xs.length σ H→D.nx σ H) :
    tFor (iList K tl) g tb D σ H:=ha _ ⟨a,rfl,⟨xs,hx⟩,for_list (K:=K) Pv h0 hl hs hd⟩
theorem comp_r2 {ta:TA} {fs:List Nat} {tt:TT} {te:TE} {σ:St} {H:Hp} {Q:VK} {l j:Int} (ha:∀ Q:List V→Hp→Prop,Q [.int l,.int j] H→ta σ H Q) (hl0:-(2 ^ 62) ≤ l) (hl1:l < 2 ^ 62) (hlo:-(2 ^ 62) ≤ j) (hhi:j < 2 ^ 62) (hn:(j - l).toNat ≤ sizeLine)
    (Pv:Nat→List V→Hp→Prop) (h0:Pv 0 [] H) (hl:∀ i ys H,i ≤ (j - l).toNat→Pv i ys H→ys.length ≤ i)
    (hs:∀ (i:Nat) ys H,l + (i:Int) < j→Pv i ys H→∀ R:List V→Hp→Prop,(∀ ys' H',Pv (i + 1) ys' H'→R ys' H')→tt (some (.int (l + i)) :: compSt fs σ) H fun b H2=>if b = true then te (some (.int (l + i)) :: compSt fs σ) H2 fun y H3=>R (ys ++ [y]) H3 else R ys H2)
    (hd:∀ ys H,Pv (j - l).toNat ys H→∀ p,H p = none→Q (.ref p) (upd H p (.lst ys))):tComp (iRng2 ta) fs tt te σ H Q:=by
  refine ha _ ⟨l,j,rfl,⟨hl0,hl1,hlo,hhi⟩,?_⟩
  exact comp_range (lo:=l) (n:=(j - l).toNat) Pv h0 hl hn (fun i ys H hi p=>hs i ys H (by omega) p) hd
theorem comp_r1 {ta:TA} {fs:List Nat} {tt:TT} {te:TE} {σ:St} {H:Hp} {Q:VK} {j:Int} (ha:∀ Q:List V→Hp→Prop,Q [.int j] H→ta σ H Q) (hlo:-(2 ^ 62) ≤ j) (hhi:j < 2 ^ 62) (hn:j.toNat ≤ sizeLine)
    (Pv:Nat→List V→Hp→Prop) (h0:Pv 0 [] H) (hl:∀ i ys H,i ≤ j.toNat→Pv i ys H→ys.length ≤ i)
    (hs:∀ (i:Nat) ys H,(i:Int) < j→Pv i ys H→∀ R:List V→Hp→Prop,(∀ ys' H',Pv (i + 1) ys' H'→R ys' H')→tt (some (.int i) :: compSt fs σ) H fun b H2=>if b = true then te (some (.int i) :: compSt fs σ) H2 fun y H3=>R (ys ++ [y]) H3 else R ys H2)
    (hd:∀ ys H,Pv j.toNat ys H→∀ p,H p = none→Q (.ref p) (upd H p (.lst ys))):tComp (iRng1 ta) fs tt te σ H Q:=by
  refine ha _ ⟨j,rfl,hlo,hhi,?_⟩
  refine comp_range (lo:=0) (n:=j.toNat) Pv h0 hl hn (fun i ys H hi p=>?_) hd
  rw [Int.zero_add]
  exact hs i ys H (by omega) p
theorem comp_s {tl:TE} {fs:List Nat} {tt:TT} {te:TE} {σ:St} {H:Hp} {Q:VK} {l:List Nat} (ha:∀ Q:VK,Q (.str (txt l)) H→tl σ H Q) (hn:l.length ≤ sizeLine)
    (Pv:Nat→List V→Hp→Prop) (h0:Pv 0 [] H) (hl:∀ i ys H,i ≤ l.length→Pv i ys H→ys.length ≤ i)
    (hs:∀ i c ys H,l[i]? = some c→Pv i ys H→∀ R:List V→Hp→Prop,(∀ ys' H',Pv (i + 1) ys' H'→R ys' H')→tt (some (.str (txt [c])) :: compSt fs σ) H fun b H2=>if b = true then te (some (.str (txt [c])) :: compSt fs σ) H2 fun y H3=>R (ys ++ [y]) H3 else R ys H2)
    (hd:∀ ys H,Pv l.length ys H→∀ p,H p = none→Q (.ref p) (upd H p (.lst ys))):tComp (iStr tl) fs tt te σ H Q:=ha _ ⟨l,rfl,comp_str Pv h0 hl hn hs hd⟩
theorem lenL_go {K:PySem.W.Frag} {H:Hp} {a:Addr} {xs:List V} {Q:VK} (hS:SqL K H a xs) (q:Q (.int xs.length) H):rLenL K [.ref a] H Q:=⟨a,xs,rfl,.inl hS,q⟩
theorem lenI_go {K:PySem.W.Frag} {H:Hp} {a:Addr} {ns:List Int} {Q:VK} (hS:SqL K H a (ns.map V.int)) (q:Q (.int ns.length) H):rLenL K [.ref a] H Q:=⟨a,_,rfl,.inl hS,by rw [List.length_map]; exact q⟩
theorem lenS_go {H:Hp} {l:List Nat} {Q:VK} (hz:l.length ≤ 100000) (q:Q (.int l.length) H):rLenS [.str (txt l)] H Q:=⟨l,rfl,Nat.le_trans hz (by decide),q⟩
theorem ixI_go {K:PySem.W.Frag} {H:Hp} {a:Addr} {ns:List Int} {i:Int} {Q:VK} (hS:SqL K H a (ns.map V.int)) (h0:0 ≤ i) (h1:i < ns.length) (q:∀ z,z ∈ ns→ns[i.toNat]? = some z→Q (.int z) H):rIxL K (.ref a) (.int i) H Q:=by
  obtain ⟨n,rfl⟩:=Int.eq_ofNat_of_zero_le h0
  have hn:n < ns.length:=by omega
  have e:ns[n]? = some ns[n]:=List.getElem?_eq_getElem hn
  exact ⟨a,_,(n:Int),.int ns[n],rfl,rfl,hS,atI_nat (by rw [List.getElem?_map,e]; rfl),q _ (List.getElem_mem hn) (by simpa using e)⟩
theorem ixL_go {K:PySem.W.Frag} {H:Hp} {a:Addr} {xs:List V} {i:Int} {v:V} {Q:VK} (hS:SqL K H a xs) (h0:0 ≤ i) (h:xs[i.toNat]? = some v) (q:Q v H):rIxL K (.ref a) (.int i) H Q:=
  ⟨a,xs,i,v,rfl,rfl,hS,atI_int h0 h,q⟩
theorem ixT_go {K:PySem.W.Frag} {H:Hp} {a:Addr} {xs:List V} {i:Int} {v:V} {Q:VK} (hS:SqT K H a xs) (h0:0 ≤ i) (h:xs[i.toNat]? = some v) (q:Q v H):rIxT K (.ref a) (.int i) H Q:=
  ⟨a,xs,i,v,rfl,rfl,hS,atI_int h0 h,q⟩
theorem ixS_go {H:Hp} {l:List Nat} {i:Int} {c:Nat} {Q:VK} (hz:l.length ≤ 100000) (h0:0 ≤ i) (h:l[i.toNat]? = some c) (q:Q (.str (txt [c])) H):rIxStr (.str (txt l)) (.int i) H Q:=by
  obtain ⟨n,rfl⟩:=Int.eq_ofNat_of_zero_le h0
  exact ⟨l,n,c,rfl,rfl,Nat.le_trans hz (by decide),by simpa using h,q⟩
theorem ixABC_go {H:Hp} {i:Int} {Q:VK} (h0:0 ≤ i) (h1:i < 26) (q:Q (.str (txt [97 + i.toNat])) H):rIxStr (.str (txt ABC)) (.int i) H Q:=
  ixS_go (by rw [abc_len]; decide) h0 (abc_at (by omega)) q
theorem addS_go {H:Hp} {l m:List Nat} {Q:VK} (hz:l.length + m.length ≤ 100000) (q:Q (.str (txt (l ++ m))) H):rAddS (.str (txt l)) (.str (txt m)) H Q:=⟨l,m,rfl,rfl,Nat.le_trans hz (by decide),q⟩
theorem abc_idx {c:Nat} (h0:97 ≤ c) (h1:c < 123):c ∈ ABC∧ABC.idxOf c = c - 97:=by
  have h:∀ d:Fin 26,(97 + d.val) ∈ ABC∧ABC.idxOf (97 + d.val) = d.val:=by decide
  have e:=h ⟨c - 97,by omega⟩
  have e2:97 + (c - 97) = c:=by omega
  simp only [e2] at e
  exact e
theorem idxABC_go {H:Hp} {c:Nat} {Q:VK} (h0:97 ≤ c) (h1:c < 123) (q:Q (.int (c - 97:Nat)) H):rIndex (.str (txt ABC)) [.str (txt [c])] H Q:=
  ⟨ABC,c,rfl,rfl,(abc_idx h0 h1).1,by rw [(abc_idx h0 h1).2]; exact q⟩
theorem mulB_l {i j:Int} (h1:-18446744073709551616 < i) (h2:i < 18446744073709551616):CMulB i j:=.l (by omega) (by omega)
theorem mulB_r {i j:Int} (h1:-18446744073709551616 < j) (h2:j < 18446744073709551616):CMulB i j:=.r (by omega) (by omega)
theorem cdiv {i j:Int} (h1:0 < j) (h2:j < 1073741824):CDiv i j:=⟨h1,h2⟩
theorem append_go {H:Hp} {l:Addr} {xs:List V} {y:V} {Q:VK} (h:H l = some (.lst xs)) (hz:xs.length < 100000) (q:Q .non (upd H l (.lst (xs ++ [y])))):rAppend (.ref l) [y] H Q:=
  ⟨l,xs,y,rfl,rfl,h,Nat.lt_of_lt_of_le hz (by decide),q⟩
theorem rstrip_go {H:Hp} {l m:List Nat} {Q:VK} (hz:l.length ≤ 100000) (q:Q (.str (txt (rstripL (fun c=>m.contains c) l))) H):rRstrip (.str (txt l)) [.str (txt m)] H Q:=⟨l,m,rfl,rfl,Nat.le_trans hz (by decide),q⟩
theorem while_of {c:TT} {tb:TS} {D:Ends} {σ:St} {H:Hp} (Pv:Nat→St→Hp→Prop) (m0:Nat) (h0:Pv m0 σ H)
    (hs:∀ m σ H,Pv m σ H→∀ R:Bool→Hp→Prop,(∀ H1,tb { D with nx:=fun σ' H'=>∃ m',m' < m∧Pv m' σ' H',ct:=fun σ' H'=>∃ m',m' < m∧Pv m' σ' H',bk:=D.nx } σ H1→R true H1)→(∀ H1,D.nx σ H1→R false H1)→c σ H R):tWhile c tb D σ H:=by
  refine ⟨Pv,⟨m0,h0⟩,fun m σ H p=>?_⟩
  refine hs m σ H p _ (fun H1 h=>?_) (fun H1 h=>?_)
  · exact ⟨_,fun σ' H' h=>h,h⟩
  · exact h
structure QE (X:Cx) (e:Expr) (t:TE):Prop where p:PE X e t
structure QT (X:Cx) (e:Expr) (t:TT):Prop where p:PT X e t
structure QW (X:Cx) (e:Expr) (t:TT):Prop where p:PW X e t
structure QA (X:Cx) (es:List Expr) (t:TA):Prop where p:PA X es t
structure QS (X:Cx) (st:Stmt) (t:TS):Prop where p:PS X st t
structure QSs (X:Cx) (st:List Stmt) (t:TS):Prop where p:PSs X st t
structure QG (X:Cx) (tg:Expr) (t:TG):Prop where p:PG X tg t
structure QGs (X:Cx) (ts:List Expr) (t:TGs):Prop where p:PGs X ts t
structure QI (X:Cx) (tg iter:Expr) (t:TI):Prop where p:PI X tg iter t
structure QTs (X:Cx) (ifs:List Expr) (t:TT):Prop where p:PTs X ifs t
section
variable {X:Cx} {e o a b iter tg:Expr} {es:List Expr} {te to ta tb:TE} {t u:TA} {x:Str} {p pos pos':Pos}
theorem kv (i:Nat) (hN:X.N[i]? = some x:=by kernel_rfl) (hv:X.env.scope.names.lookup x = some .local:=by kernel_rfl) (hd:(x == ("__debug__":Str)) = false:=by kernel_rfl)
    (hcd:(x == ("__classdict__":Str)) = false:=by kernel_rfl):QE X (.Name x pos) (tVar i):=⟨pe_var hN (.inl hv) hd hcd⟩
theorem kvc (i:Nat) (hN:X.N[i]? = some x:=by kernel_rfl) (hv:X.env.scope.names.lookup x = some .cell:=by kernel_rfl) (hd:(x == ("__debug__":Str)) = false:=by kernel_rfl)
    (hcd:(x == ("__classdict__":Str)) = false:=by kernel_rfl):QE X (.Name x pos) (tVar i):=⟨pe_var hN (.inr (.inl hv)) hd hcd⟩
theorem ke_int {i:Int} {j:Nat}:QE X (.Constant (.int i) j pos) (tC (.int i)):=⟨pe_int⟩
theorem ke_bl {c:Bool} {j:Nat}:QE X (.Constant (.bool c) j pos) (tC (.bl c)):=⟨pe_bl⟩
theorem ke_non {j:Nat}:QE X (.Constant .none j pos) (tC .non):=⟨pe_non⟩
theorem ke_txt {y:Str} {l:List Nat} {j:Nat} (h:y = txt l:=by kernel_rfl):QE X (.Constant (.str y) j pos) (tC (.str (txt l))):=⟨pe_txt h⟩
theorem ka_nil:QA X [] tNil:=⟨pa_nil⟩
theorem ka_cons (ha:QE X e te) (hr:QA X es t) (hs:starEach (e :: es) X.env = (false,eval e X.env) :: starEach es X.env:=by kernel_rfl):QA X (e :: es) (tCons te t):=⟨pa_cons ha.p hr.p hs⟩
theorem ke_gstr {y:Str} {l:List Nat} (hm:∃ t,X.mg x = some (.str y t)) (e:y = txt l) (hg:X.env.kindOf x = some .globalImplicit:=by kernel_rfl) (hd:(x == ("__debug__":Str)) = false:=by kernel_rfl):QE X (.Name x pos) (tC (.str (txt l))):=⟨pe_gstr hg hm e hd⟩
theorem ke_call {CX:CXT} {k:Nat} {f:Addr} {fd:FuncData} {ps:List Str} {sp:Sp} {E:XK} (F:FnOk X.prog X.w X.K X.mg X.base CX k f fd ps sp) (hr:Room k X.A) (hm:X.mg x = some (.ref f)) (hk:PySem.W.keepIn X.K (.ref f) = true) (hb:Binds X.K fd ps []) (hx:Passes CX X E)
    (ha:QA X (e :: es) t) (hg:X.env.kindOf x = some .globalImplicit:=by kernel_rfl) (hdb:(x == ("__debug__":Str)) = false:=by kernel_rfl) (he:starEach (e :: es) X.env = (false,eval e X.env) :: starEach es X.env:=by kernel_rfl) (hpl:(backTo pos (starEach es X.env)).any (·.1) = false:=by kernel_rfl) :
    QE X (.Call (.Name x p) (e :: es) [] pos) (tCall sp [] E t):=⟨pe_call F hr hg hm hk hb .nil hx ha.p hdb he hpl⟩
theorem ke_callB {id:String} {r:List V→Hp→VK→Prop} (hc:CallR X (.builtin id) r) (hm:X.mg x = none) (hv:bootBuiltins x = some (.builtin id)) (ha:QA X (e :: es) t)
    (hg : X.env.kindOf x = some .globalImplicit := by kernel_rfl) (hn : decide (x = "__name__") = false := by kernel_rfl) (hdb : (x == ("__debug__" : Str)) = false := by kernel_rfl)
    (he:starEach (e :: es) X.env = (false,eval e X.env) :: starEach es X.env:=by kernel_rfl) (hpl:(backTo pos (starEach es X.env)).any (·.1) = false:=by kernel_rfl) :
    QE X (.Call (.Name x p) (e :: es) [] pos) (tCB r t):=⟨pe_callB hc hg hm hv ha.p (of_decide_eq_false hn) hdb he hpl⟩
theorem ke_callTy {T:String} {r:List V→Hp→VK→Prop} (hc:CallR X (.type T) r) (hm:X.mg x = none) (hv:bootBuiltins x = some (.type T)) (ha:QA X (e :: es) t)
    (hg : X.env.kindOf x = some .globalImplicit := by kernel_rfl) (hn : decide (x = "__name__") = false := by kernel_rfl) (hdb : (x == ("__debug__" : Str)) = false := by kernel_rfl)
    (he:starEach (e :: es) X.env = (false,eval e X.env) :: starEach es X.env:=by kernel_rfl) (hpl:(backTo pos (starEach es X.env)).any (·.1) = false:=by kernel_rfl) :
    QE X (.Call (.Name x p) (e :: es) [] pos) (tCB r t):=⟨pe_callTy hc hg hm hv ha.p (of_decide_eq_false hn) hdb he hpl⟩
theorem ke_op {op:Operator} {r:R2} (ho:OpR X (binaryOp op) r) (ha:QE X a ta) (hb:QE X b tb):QE X (.BinOp a op b pos) (tOp r ta tb):=⟨pe_op ho ha.p hb.p⟩
theorem ke_one {op} {t:TE} (h:QE X a t):QE X (.BoolOp op [a] pos) t:=⟨pe_one h.p⟩
theorem ke_and {rest:List Expr} (ha:QE X a ta) (hb:QE X (.BoolOp .And (b :: rest) pos) tb):QE X (.BoolOp .And (a :: b :: rest) pos) (tAndV ta tb):=⟨pe_and ha.p hb.p⟩
theorem ke_ifExp {c:Expr} {tc:TT} (hc:QT X c tc) (ha:QE X a ta) (hb:QE X b tb):QE X (.IfExp c a b pos) (tIf tc ta tb):=⟨pe_ifExp hc.p ha.p hb.p⟩
theorem ke_lst (h:QA X es t):QE X (.List es pos) (tLst t):=⟨pe_lst h.p⟩
theorem ke_tup {x1} (h:QA X es t):QE X (.Tuple es x1 pos) (tTup t):=⟨pe_tup h.p⟩
theorem ke_ix {r:R2} (hr:IxR X r) (ha:QE X a ta) (hb:QE X b tb) (hs:∀ o i,subscripted b false o i = operate [o,i] (getItem o i):=by intro _ _; kernel_rfl):QE X (.Subscript a b pos) (tOp r ta tb):=⟨pe_ix hr ha.p hb.p hs⟩
variable {name:Str} {apos cpos:Pos} {T id:String} {r:V→List V→Hp→VK→Prop}
theorem ke_bm0 (pa:PlainAttrs T) (slot:Slot T name id) (hty:typeOf (.builtin id) = pure (.type "method_descriptor")) (hm:MtR X id r) (ho:QE X o to)
    (hbase:attributeBase o name X.env (eval o X.env) = eval o X.env:=by kernel_rfl) (hline:(apos.endLine == cpos.line) = true:=by kernel_rfl):QE X (.Call (.Attribute o name apos) [] [] cpos) (tBM0 X.K T r to):=⟨pe_bm0 pa slot hty hm ho.p hbase hline⟩
theorem ke_bm (pa:PlainAttrs T) (slot:Slot T name id) (hty:typeOf (.builtin id) = pure (.type "method_descriptor")) (hm:MtR X id r) (ho:QE X o to) (ha:QA X (e :: es) t)
    (hbase:attributeBase o name X.env (eval o X.env) = eval o X.env:=by kernel_rfl)
    (hfew:((backTo cpos (starEach (e :: es) X.env)).all (fun x=>!x.1) && (backToKw cpos (keywordEach [] X.env)).all (fun x=>x.1.isSome)
      && decide ((e :: es).length + ([]:List Keyword).length + (if ([]:List Keyword).isEmpty then 0 else 1) < 30)) = true:=by kernel_rfl)
    (hline:(apos.endLine == cpos.line) = true:=by kernel_rfl) (hs:starEach (e :: es) X.env = (false,eval e X.env) :: starEach es X.env:=by kernel_rfl) (hplain:(backTo cpos (starEach es X.env)).any (·.1) = false:=by kernel_rfl) :
    QE X (.Call (.Attribute o name apos) (e :: es) [] cpos) (tBM X.K T r to t):=⟨pe_bm pa slot hty hm ho.p ha.p hbase hfew hline hs hplain⟩
theorem kt_val (h:QE X e te) (he:∀ whole,isTrue e X.env whole = (do let v ← whole; standAt e.pos; holding [v] (truthy v)):=by intro _; kernel_rfl):QT X e (tB te):=⟨pt_val h.p he⟩
theorem kt_cmp {op:CmpOp} {r:R2} (ho:OpR X (compareOp op) r) (ha:QE X a ta) (hb:QE X b tb) (hm:behindInMarks op b = false:=by kernel_rfl):QT X (.Compare a [op] [b] pos) (tTest (tOp r ta tb)):=⟨pt_cmpR ho ha.p hb.p hm⟩
theorem ke_cmp {op:CmpOp} {r:R2} (ho:OpR X (compareOp op) r) (ha:QE X a ta) (hb:QE X b tb) (hm:behindInMarks op b = false:=by kernel_rfl):QE X (.Compare a [op] [b] pos) (tOp r ta tb):=⟨pe_cmpR ho ha.p hb.p hm⟩
theorem kt_isN {j:Nat} {pos'':Pos} (ha:QE X e te):QT X (.Compare e [.Is] [.Constant .none j pos''] pos) (tB (tIsN te)):=⟨pt_cmp (pc_isN ha.p) (nobehind _ (by decide) (by decide))⟩
theorem kt_notN {j:Nat} {pos'':Pos} (ha:QE X e te):QT X (.Compare e [.IsNot] [.Constant .none j pos''] pos) (tB (tNotN te)):=⟨pt_cmp (pc_notN ha.p) (nobehind _ (by decide) (by decide))⟩
variable {tA tB':TT} {rest:List Expr}
theorem kt_not (ha:QT X a tA):QT X (.UnaryOp .Not a pos) (tNot tA):=⟨pt_not ha.p⟩
theorem kw_and1 (ha:QT X a tA):QW X (.BoolOp .And [a] pos) tA:=⟨pw_and1 ha.p⟩
theorem kw_or1 (ha:QT X a tA):QW X (.BoolOp .Or [a] pos) tA:=⟨pw_or1 ha.p⟩
theorem kw_and (ha:QT X a tA) (hb:QW X (.BoolOp .And (b :: rest) pos) tB'):QW X (.BoolOp .And (a :: b :: rest) pos) (tAnd tA tB'):=⟨pw_and ha.p hb.p⟩
theorem kw_or (ha:QT X a tA) (hb:QW X (.BoolOp .Or (b :: rest) pos) tB'):QW X (.BoolOp .Or (a :: b :: rest) pos) (tOr tA tB'):=⟨pw_or ha.p hb.p⟩
theorem kt_w (h:QW X e tA):QT X e tA:=⟨h.p.pt⟩
theorem kts_nil:QTs X [] tYes:=⟨pts_nil⟩
theorem kts_one {c:Expr} {t:TT} (h:QT X c t):QTs X [c] t:=⟨pts_one h.p⟩
theorem ki_range1 {ta : TA} (hm : X.mg "range" = none) (ha : QA X [a] ta) (hg : X.env.kindOf "range" = some .globalImplicit := by kernel_rfl) (hs : starEach [a] X.env = [(false, eval a X.env)] := by kernel_rfl) : QI X tg (.Call (.Name "range" p) [a] [] pos) (iRng1 ta) := ⟨pi_range1 hg hm ha.p hs⟩
theorem ki_range2 {ta : TA} (hm : X.mg "range" = none) (ha : QA X [a, b] ta) (hg : X.env.kindOf "range" = some .globalImplicit := by kernel_rfl) (hs : starEach [a, b] X.env = [(false, eval a X.env), (false, eval b X.env)] := by kernel_rfl) (hs2 : starEach [b] X.env = [(false, eval b X.env)] := by kernel_rfl) : QI X tg (.Call (.Name "range" p) [a, b] [] pos) (iRng2 ta) := ⟨pi_range2 hg hm ha.p hs hs2⟩
theorem ki_list {tl:TE} (hl:QE X a tl):QI X tg a (iList X.K tl):=⟨pi_list hl.p⟩
theorem ki_str {tl:TE} (hl:QE X a tl):QI X tg a (iStr tl):=⟨pi_str hl.p⟩
theorem ke_comp {elt:Expr} {px:Pos} {ifs:List Expr} {scope:Scope} (fs:List (Str × Nat)) {wi:TI} {tt:TT} {te:TE}
    (hi:QI X (.Name x px) iter wi)
    (hb:∀ (cl:List (Str × Addr)) (C:Addr) (s₀:Shared) (H₀:Hp) (ex:List Addr),QTs (cxComp X scope cl C (x :: fs.map (·.1)) s₀ H₀ ex) ifs tt∧QE (cxComp X scope cl C (x :: fs.map (·.1)) s₀ H₀ ex) elt te)
    (hc:X.calm = true:=by kernel_rfl) (hk:scope.kind = .function:=by kernel_rfl) (hl:compLook scope.names X.env.scope.names X.N x fs = true:=by kernel_rfl)
    (hs:∀ x,foldedSetIterable iter X.env x = pure x:=by intro _; kernel_rfl) :
    QE X (.ListComp elt [⟨.Name x px,iter,ifs,0⟩] scope pos) (tComp wi (fs.map (·.2)) tt te):=⟨pe_compB fs hc hi.p (fun cl C s₀ H₀ ex=>⟨(hb cl C s₀ H₀ ex).1.p,(hb cl C s₀ H₀ ex).2.p⟩) hk hl hs⟩
theorem ks_comp {i:Nat} {y:Str} {py spos:Pos} {elt:Expr} {px:Pos} {ifs:List Expr} {scope:Scope} (fs:List (Str × Nat)) {wi:TI} {tt:TT} {te:TE}
    (hN:X.N.Nodup) (hi:QI X (.Name x px) iter wi)
    (hb:∀ (cl:List (Str × Addr)) (C:Addr) (s₀:Shared) (H₀:Hp) (ex:List Addr),QTs (cxComp X scope cl C (x :: fs.map (·.1)) s₀ H₀ ex) ifs tt∧QE (cxComp X scope cl C (x :: fs.map (·.1)) s₀ H₀ ex) elt te)
    (hy:X.N[i]? = some y:=by kernel_rfl) (hyl:X.env.scope.names.lookup y = some .local:=by kernel_rfl) (hc:X.calm = true:=by kernel_rfl)
    (hk:scope.kind = .function:=by kernel_rfl) (hl:compLook scope.names X.env.scope.names X.N x fs = true:=by kernel_rfl)
    (hsw:swapsWith (.ListComp elt [⟨.Name x px,iter,ifs,0⟩] scope pos) (some (.Name y py)) spos.line X.env = pure true:=by kernel_rfl)
    (hs:∀ x,foldedSetIterable iter X.env x = pure x:=by intro _; kernel_rfl) :
    QS X (.Assign [.Name y py] (.ListComp elt [⟨.Name x px,iter,ifs,0⟩] scope pos) spos) (tCompSet i wi (fs.map (·.2)) tt te):=⟨ps_compB fs hN hy hyl hc hi.p (fun cl C s₀ H₀ ex=>⟨(hb cl C s₀ H₀ ex).1.p,(hb cl C s₀ H₀ ex).2.p⟩) hk hl hsw hs⟩
variable {st:Stmt} {sts:List Stmt} {t1 t2:TS}
theorem kss_nil:QSs X [] tNext:=⟨pss_nil⟩
theorem kss_cons (h1:QS X st t1) (h2:QSs X sts t2):QSs X (st :: sts) (tSeq t1 t2):=⟨pss_cons h1.p h2.p⟩
theorem kss_one (h1:QS X st t1):QSs X [st] t1:=⟨pss_one h1.p⟩
theorem ks_set {i:Nat} (hN:X.N.Nodup) (he:QE X e te) (hi:X.N[i]? = some x:=by kernel_rfl) (hx:X.env.scope.names.lookup x = some .local:=by kernel_rfl) (hs:swapsWith e (some (.Name x pos')) pos.line X.env = pure false:=by kernel_rfl) :
    QS X (.Assign [.Name x pos'] e pos) (tAsg te (gName i)):=⟨ps_set hN hi (.inl hx) he.p hs (.inr hx)⟩
theorem ks_setc {i:Nat} (hN:X.N.Nodup) (he:QE X e te) (hi:X.N[i]? = some x:=by kernel_rfl) (hx:X.env.scope.names.lookup x = some .cell:=by kernel_rfl) (hs:swapsWith e (some (.Name x pos')) pos.line X.env = pure false:=by kernel_rfl) (hf:X.fn x = true:=by kernel_rfl) :
    QS X (.Assign [.Name x pos'] e pos) (tAsg te (gName i)):=⟨ps_set hN hi (.inr hx) he.p hs (.inl hf)⟩
theorem ks_expr (he:QE X e te) (hs:swapsWith e none pos.line X.env = pure false:=by kernel_rfl):QS X (.Expr e pos) (tDrop te):=⟨ps_expr he.p hs⟩
theorem ks_ret (he:QE X e te):QS X (.Return (some e) pos) (tRet te):=⟨ps_ret he.p⟩
theorem ks_if {c:Expr} {l1 l2:List Stmt} {tc:TT} (hc:QT X c tc) (ha:QSs X l1 t1) (hb:QSs X l2 t2):QS X (.If c l1 l2 pos) (tIfS tc t1 t2):=⟨ps_if hc.p ha.p hb.p⟩
theorem ks_while {c:Expr} {body:List Stmt} {tc:TT} (hc:QT X c tc) (hb:QSs X body t1) (hp:PassesOwn (model X.prog X.w) X.A X.env X.xe:=by exact PassesOwn.never):QS X (.While c body [] pos) (tWhile tc t1):=⟨ps_while hp hc.p hb.p⟩
theorem kg_name {i:Nat} (hN:X.N.Nodup) (hi:X.N[i]? = some x:=by kernel_rfl) (hx:X.env.scope.names.lookup x = some .local:=by kernel_rfl):QG X (.Name x pos) (gName i):=⟨pg_name hN hi (.inl hx) (.inr hx)⟩
theorem ks_for {body:List Stmt} {wi:TI} {g:TG} {tb:TS} (hi:QI X tg iter wi) (hg:QG X tg g) (hb:QSs X body tb) (hp:PassesOwn (model X.prog X.w) X.A X.env X.xe:=by exact PassesOwn.never) (hc:X.calm = true:=by kernel_rfl) (hs:∀ x,foldedSetIterable iter X.env x = pure x:=by intro _; kernel_rfl):QS X (.For tg iter body [] pos) (tFor wi g tb):=⟨ps_for hp hc hi.p hg.p hb.p hs⟩
theorem kgs_nil:QGs X [] gNil:=⟨pgs_nil⟩
theorem kgs_cons {t:TG} {u:TGs} (h1:QG X e t) (h2:QGs X es u) (hs:(assignEach (e :: es) X.env).map (·.2) = assign e X.env :: (assignEach es X.env).map (·.2):=by kernel_rfl):QGs X (e :: es) (gCons t u):=⟨pgs_cons h1.p h2.p hs⟩
theorem kg_tup {k:Nat} {t:TGs} {n:Nat} (h:QGs X es t) (hc:X.calm = true:=by kernel_rfl) (hn:(assignEach es X.env).length = n:=by kernel_rfl) (hst:(assignEach es X.env).findIdx? (·.1) = none:=by kernel_rfl):QG X (.Tuple es k pos) (gTup X.K n t):=⟨pg_tup hc h.p hn hst⟩
end
theorem Fun.okQ {P:Program} {w:World} {K:PySem.W.Frag} {mg:Str→Option Value} {base:Heap} {x qual:Str} {st:Stmt} {f:Addr} {fd:FuncData} {N ps:List Str} {k:Nat} {sp:Sp} (F:Fun K x qual st f fd) (S:FnScope N ps (defScope st)) {rd:TS} (len:∀ vs H Q E,sp vs H Q E→vs.length = ps.length)
    (hb:∀ (cdv:Value) (A:Around) (outer:List Env) (s:Shared) (H:Hp) (E:XK),Room k (A.deeper (envOfC qual (defScope st) s.heap.objs.size f cdv))→QSs (cxOf CX0 P w K mg base N qual (defScope st) f cdv A outer s H E).nox (defBody st) rd)
    (hq:∀ (vs:List V) (H:Hp) (Q:VK) (E:XK),sp vs H Q E→rd { nx:=fun _ H'=>Q .non H',rt:=Q } (start N vs) H):FnOk P w K mg base CX0 (k + 1) f fd ps sp:=
  F.ok S len fun cdv A outer s H vs Q E hr h=>⟨rd,(hb cdv A outer s H E hr).p,hq vs H Q E h⟩
section
variable {X:Cx}
abbrev rAllB (K:PySem.W.Frag):List V→Hp→VK→Prop:=fun xs H Q=>∃ p,∃ bs:List Bool,xs = [.ref p]∧SqL K H p (bs.map V.bl)∧Q (.bl (bs.all id)) H
theorem all_range {bs:List Bool}:(List.range bs.length).all (fun i=>bs.getD i true) = bs.all id:=by
  rw [Bool.eq_iff_iff,List.all_eq_true,List.all_eq_true]
  constructor
  · intro h b hb
    obtain ⟨i,hi,rfl⟩:=List.getElem_of_mem hb
    have:=h i (List.mem_range.mpr hi)
    simpa [List.getD_eq_getElem?_getD,hi] using this
  · intro h i hi
    have hi':=List.mem_range.mp hi
    have:=h bs[i] (List.getElem_mem hi')
    simpa [List.getD_eq_getElem?_getD,hi'] using this
theorem call_allB (hc:X.calm = true):CallR X (.builtin "all") (rAllB X.K):=by
  intro pins s σ H xs us Q I r h
  obtain ⟨p,bs,rfl,hS,q⟩:=h
  obtain ⟨u,rfl,ru⟩:=vals1 r
  obtain rfl:u = Value.ref p:=ru
  obtain ⟨its,rv,pl,hz⟩:=I.list hS
  have hlen:its.length = bs.length:=by rw [← rv.length,List.length_map]
  refine call_all_walk (wpAny_pyIter_list pl.isList ?_)
  have hne:p ≠ s.heap.objs.size:=Nat.ne_of_lt (by obtain ⟨o,e,_⟩:=pl.isList; exact Heap.lt_size e)
  refine ⟨s.heap.objs.size,_,_,_,_,_,fun i=>bs.getD i true,rfl,Walks.list (A:=X.A.in1) (show X.A.in1.handled = none from I.ok.hd hc) s.heap.objs.size p hne its.toArray,⟨⟨_,Heap.get?_push_size _ rfl,rfl,rfl⟩,pl.isList.at fun o e=>Heap.get?_push_of_some _ e⟩,?_,fun h' tk hk=>?_⟩
  · intro i v s' Q' E' hv hq
    have hv':its[i]? = some v:=by simpa using hv
    have hi:i < bs.length:=by rw [← hlen]; exact (List.getElem?_eq_some_iff.mp hv').1
    obtain ⟨u',hu',ru'⟩:=rv.get (i:=i) (x:=.bl bs[i]) (by rw [List.getElem?_map,List.getElem?_eq_getElem hi]; rfl)
    rw [hv'] at hu'
    cases hu'
    obtain rfl:v = Value.bool bs[i]:=ru'
    refine wpAny_truthy_bool ?_
    have e:bs.getD i true = bs[i]:=by simp [List.getD_eq_getElem?_getD,hi]
    rw [← e]; exact hq
  · have e:(List.range its.toArray.size).all (fun i=>bs.getD i true) = bs.all id:=by
      rw [List.size_toArray,hlen]; exact all_range
    refine ⟨.bl _,H,I.kept (t':=tk) fun b o eb=>hk b o ?_ (Heap.get?_push_of_some _ eb),rfl,by rw [e]; exact q⟩
    intro hb
    have:b = s.heap.objs.size:=by simpa using hb
    subst this
    exact absurd (Heap.lt_size eb) (Nat.lt_irrefl _)
def isTy (t T:String):Option Bool:=if (Value.type t == Value.type T) = true then some true else if PySem.W.kitMeta T = true then (fastBuiltinMro t).map (·.contains (.type T)) else none
theorem isTy_kit {K:PySem.W.Frag} {t T:String} {b:Bool} (h:isTy t T = some b):PySem.W.kitOne K (.type t) (.type T) = some b:=h
theorem isTy_list_list:isTy "list" "list" = some true:=by kernel_rfl
theorem isTy_tuple_tuple:isTy "tuple" "tuple" = some true:=by kernel_rfl
def rIsi (K:PySem.W.Frag) (T:String):V→Hp→VK→Prop:=fun x H Q=>∃ t b,TyOf K H x (.type t)∧isTy t T = some b∧Q (.bl b) H
def tIsi (K:PySem.W.Frag) (T:String) (ta:TE):TE:=fun σ H Q=>ta σ H fun x H1=>rIsi K T x H1 Q
theorem ke_isi {e:Expr} {te:TE} {y z:Str} {T:String} {p p2 pos:Pos} (hm:X.mg y = none) (hv:bootBuiltins y = some (.builtin "isinstance")) (hm2:X.mg z = none) (hv2:bootBuiltins z = some (.type T)) (he:QE X e te)
    (hg : X.env.kindOf y = some .globalImplicit := by kernel_rfl) (hn : decide (y = "__name__") = false := by kernel_rfl) (hdb : (y == ("__debug__" : Str)) = false := by kernel_rfl)
    (hg2 : X.env.kindOf z = some .globalImplicit := by kernel_rfl) (hn2 : decide (z = "__name__") = false := by kernel_rfl) (hdb2 : (z == ("__debug__" : Str)) = false := by kernel_rfl)
    (hs1:starEach [e,.Name z p2] X.env = (false,eval e X.env) :: starEach [.Name z p2] X.env:=by kernel_rfl) (hs2:starEach [.Name z p2] X.env = (false,eval (.Name z p2) X.env) :: starEach [] X.env:=by kernel_rfl)
    (hpl:(backTo pos (starEach [.Name z p2] X.env)).any (·.1) = false:=by kernel_rfl) :
    QE X (.Call (.Name y p) [e,.Name z p2] [] pos) (tIsi X.K T te):=by
  have hR:CallR X (.builtin "isinstance") (fun xs H Q=>∃ x,xs = [x,.ty T]∧rIsi X.K T x H Q):=by
    intro pins s σ H xs us Q I r h
    obtain ⟨x,rfl,t,b,ty,hk,q⟩:=h
    obtain ⟨u,w',rfl,ru,rw'⟩:=vals2 r
    obtain rfl:w' = Value.type T:=rw'
    exact isinst_ok I ru ty (isTy_kit hk) fun tk=>⟨.bl b,H,I.tok tk,rfl,q⟩
  have hP:=pe_callB (x:=y) (p:=p) (pos:=pos) hR hg hm hv (pa_cons he.p (pa_cons (pe_bltn (v:=.ty T) hg2 hm2 hv2 rfl (of_decide_eq_false hn2) hdb2) pa_nil hs2) hs1) (of_decide_eq_false hn) hdb hs1 hpl
  refine ⟨fun pins s σ H Q I h=>hP pins s σ H Q I ?_⟩
  show te σ H fun x H1=>_
  exact (show (te σ H fun x H1=>rIsi X.K T x H1 Q)→te σ H (fun x H1=>∃ x',[x,V.ty T] = [x',.ty T]∧rIsi X.K T x' H1 Q) from fun q=>by
    have e:(fun x H1=>∃ x',[x,V.ty T] = [x',.ty T]∧rIsi X.K T x' H1 Q) = fun x H1=>rIsi X.K T x H1 Q:=by
      funext x H1
      refine propext ⟨fun ⟨x',e,q⟩=>?_,fun q=>⟨x,rfl,q⟩⟩
      cases e; exact q
    rw [e]; exact q) h
theorem isiL_go {K:PySem.W.Frag} {H:Hp} {a:Addr} {xs:List V} {Q:VK} (h:H a = some (.lst xs)) (q:Q (.bl true) H):rIsi K "list" (.ref a) H Q:=⟨_,_,.lst h,isTy_list_list,q⟩
end
structure UnB (fs:List Addr) (H H':Hp) (h B h':Heap):Prop where
  keep:∀ b o,h.get? b = some o→H b = none→b ∉ fs→B.get? b = some o
  slot:∀ b o,h.get? b = some o→H b = none→b ∈ fs→∃ sl,h'.get? b = some { o with slots:=sl }
  free:∀ b o,h.get? b = some o→H b = none→H' b = none
  there:∀ b o,h.get? b = some o→b ∉ fs→∃ o',B.get? b = some o'
  tups:∀ b xs,H b = some (.tup xs)→H' b = some (.tup xs)
  frzs:∀ b o u,H b = some (.frz o u)→H' b = some (.frz o u)
  tbls:∀ b ps,H b = some (.tbl ps)→∃ more,H' b = some (.tbl (ps ++ more))
def CX1 (P:Program) (w:World):CXT:=fun outer H s E e s'=>∃ (ea:Addr) (cls:Value) (t:Addr) (H':Hp) (B:Heap),e = .ref ea∧s'.os = s.os∧AllBare s'.gens∧
  Heap.FlyingW B outer ea cls (.ref t) s'.heap∧HOk P w H' B∧UnB (frs outer) H H' s.heap B s'.heap∧E cls none H'
theorem frs_none {base h:Heap} {l:List Env} (f:h.FunFrames base l) {b:Addr} (hb:b ∈ frs l):base.get? b = none∧∃ o,h.get? b = some o∧∀ vs,o.data ≠ .fields vs:=f.mem hb
section
variable {P:Program} {w:World} {K:PySem.W.Frag} {mg:Str→Option Value} {base:Heap} {N:List Str} {qual:Str} {scope:Scope} {f:Addr} {cd:Value} {A:Around} {outer:List Env} {s:Shared} {H:Hp} {E:XK}
theorem made_def {pins:List (Addr × Obj)} {σ:St} {H2:Hp} {s2:Shared} {h':Heap} {e:Addr} {cls:Value} {vs:List Value} (I:Inv (cxOf (CX1 P w) P w K mg base N qual scope f cd A outer s H E) pins σ H2 s2)
    (hx:Heap.MadeExcOf s2.heap h' e cls vs) (q:E cls none H2):(cxOf (CX1 P w) P w K mg base N qual scope f cd A outer s H E).xe (.ref e) { s2 with heap:=h' }:=by
  generalize eF:frs (cxOf (CX1 P w) P w K mg base N qual scope f cd A outer s H E).stack = F
  have hin:∀ env ∈ (cxOf (CX1 P w) P w K mg base N qual scope f cd A outer s H E).stack,∀ b,env.frame = some b→b ∈ F:=fun env he b hb=>by rw [← eF]; exact List.mem_filterMap.mpr ⟨env,he,hb⟩
  have neL:∀ b o,s.heap.get? b = some o→b ≠ s.heap.objs.size:=fun b o e=>Nat.ne_of_lt (Heap.lt_size e)
  have nF:∀ b o,s.heap.get? b = some o→b ∉ frs outer→b ∉ F:=fun b o e hb z=>by
    rw [← eF] at z
    rcases List.mem_cons.mp (I.stkSub b z) with y | y
    · exact neL b o e y
    · exact hb y
  have gB:∀ b o,s2.heap.get? b = some o→b ∉ F→(PySem.W.hideAll s2.heap F).get? b = some o:=fun b o e hb=>PySem.W.hideAll_get _ e hb
  show wpAny _ _ (leaving _ (.ref e)) _ _ _
  refine wpAny_leaves_madeW (base:=PySem.W.hideAll s2.heap F) (h:=s2.heap) I.ok.frames rfl (fun b o q=>PySem.W.of_hideAll _ q) (PySem.W.funFrames_hide I.stack hin) hx fun h2 t hfl htup hn hsm=>?_
  refine ⟨e,cls,t,H2,PySem.W.hideAll s2.heap F,rfl,I.os,I.bare,hfl,fun a o ea=>(I.hok a o ea).stay (fun b u hb eu=>gB b u eu fun z=>?_) (fun c q=>q) (fun c xs q=>q),⟨fun b o eb n hb=>?_,fun b o eb n hb=>?_,fun b o eb n=>?_,fun b o eb hb=>?_,I.base.tups,I.base.frzs,I.base.tbls⟩,q⟩
  · have hf:=I.stkFree b (by rw [eF]; exact z)
    rcases hb with rfl | hb
    · rw [hf] at ea; cases ea
    · rw [hf] at hb; cases hb
  · exact gB b o (I.base.keep b o eb n hb (List.not_mem_nil)) (nF b o eb hb)
  · obtain ⟨sl,e1⟩:=I.base.slot b o eb n hb (List.not_mem_nil)
    obtain ⟨_,o2,e2,d2⟩:=frs_none I.stack (List.mem_cons_of_mem _ hb:b ∈ s.heap.objs.size :: frs outer)
    rw [e1] at e2
    cases e2
    obtain ⟨sl',e3⟩:=hsm b _ (hx.keeps _ _ e1) d2
    exact ⟨sl',e3⟩
  · exact I.base.free b o eb n (List.not_mem_nil)
  · obtain ⟨o',e1⟩:=I.base.there b o eb (List.not_mem_nil)
    exact ⟨o',gB b o' e1 (nF b o eb hb)⟩
theorem pass_def:Passes (CX1 P w) (cxOf (CX1 P w) P w K mg base N qual scope f cd A outer s H E) E:=by
  rintro pins σ H1 s1 e s2 I ⟨ea,cls,t,H2,B,rfl,hos,hg,hfl,hok,ub,q⟩
  have neL:∀ b o,s.heap.get? b = some o→b ≠ s.heap.objs.size:=fun b o e=>Nat.ne_of_lt (Heap.lt_size e)
  have nF:∀ b o,s.heap.get? b = some o→b ∉ frs outer→b ∉ frs (cxOf (CX1 P w) P w K mg base N qual scope f cd A outer s H E).stack:=fun b o e hb z=>by
    rcases List.mem_cons.mp (I.stkSub b z) with y | y
    · exact neL b o e y
    · exact hb y
  have yF:∀ b,b ∈ frs outer→b ∈ frs (cxOf (CX1 P w) P w K mg base N qual scope f cd A outer s H E).stack:=fun b hb=>(List.mem_cons_of_mem _ hb:b ∈ s.heap.objs.size :: frs outer)
  show wpAny _ _ (leaving _ (.ref ea)) _ _ _
  refine wpAny_leaves_onW I.ok.frames rfl hfl fun h3 hfl3 hsm=>?_
  refine ⟨ea,cls,t,H2,B,rfl,hos.trans I.os,hg,hfl3,hok,⟨fun b o eb n hb=>?_,fun b o eb n hb=>?_,fun b o eb n=>?_,fun b o eb hb=>?_,fun b xs e=>ub.tups b xs (I.base.tups b xs e),fun b o u e=>ub.frzs b o u (I.base.frzs b o u e),fun b ps e=>?_⟩,q⟩
  · exact ub.keep b o (I.base.keep b o eb n hb (List.not_mem_nil)) (I.base.free b o eb n (List.not_mem_nil)) (nF b o eb hb)
  · obtain ⟨sl,e1⟩:=I.base.slot b o eb n hb (List.not_mem_nil)
    obtain ⟨sl',e2⟩:=ub.slot b _ e1 (I.base.free b o eb n (List.not_mem_nil)) (yF b hb)
    obtain ⟨_,o2,e3,d3⟩:=frs_none hfl.2.2.1 (yF b hb)
    rw [e2] at e3
    cases e3
    obtain ⟨sl2,e4⟩:=hsm b _ e2 d3
    exact ⟨sl2,e4⟩
  · obtain ⟨o',e1⟩:=I.base.there b o eb (List.not_mem_nil)
    exact ub.free b o' e1 (I.base.free b o eb n (List.not_mem_nil))
  · obtain ⟨o',e1⟩:=I.base.there b o eb (List.not_mem_nil)
    exact ub.there b o' e1 (nF b o eb hb)
  · obtain ⟨m1,e1⟩:=I.base.tbls b ps e
    obtain ⟨m2,e2⟩:=ub.tbls b _ e1
    exact ⟨m1 ++ m2,by rw [e2,Array.append_assoc]⟩
end
theorem exc_obj {K:PySem.W.Frag} {h:Heap} {C:Addr} {bmB:List Value} {newId:String} (X:K.In h) (q:PySem.W.excIn K C bmB newId = true) :
    ∃ bm N nm qn bs hdct sn sub ab col dd k0 k1 k2 k3 k5 mN,h.get? C = some (excClassObj nm qn C N bs bm hdct sn sub ab col dd k0 k1 k2 k3 k5 newId)∧h.Ns N mN∧mN "__init__" = none∧OwnTail h bmB bm:=by
  unfold PySem.W.excIn at q
  split at q
  next dd cd sl look=>
    split at q
    next C1 tl a0 a1 a2 a3 nid a5 e1 e2=>
      simp only [Bool.and_eq_true,beq_iff_eq,Bool.not_eq_true'] at q
      obtain ⟨⟨⟨⟨⟨q1,q2⟩,q3⟩,q4⟩,q5⟩,q6⟩:=q
      subst q1 q2
      cases cd
      dsimp only at e1 q3 q5 q6
      subst e1 q3
      have e3:sl = #[a0,a1,a2,a3,some (.builtin nid),a5]:=by
        cases sl
        dsimp only at e2
        rw [e2]
      subst e3
      exact ⟨tl,_,_,_,_,_,_,_,_,_,_,_,_,_,_,_,_,X _ _ look,.of_isNs (PySem.W.isNs_of_in X q5),PySem.W.nsMap_none_of_in X q5 q6,PySem.W.tail_of_in X q4⟩
    next=>cases q
  next=>cases q
def tRaise (cls:Value) (E:XK) (ta:TA):TS:=fun _ σ H=>ta σ H fun vs H1=>vs.length ≤ 8∧E cls none H1
section
variable {X:Cx}
theorem ps_raise {x:Str} {e:Expr} {es:List Expr} {ta:TA} {C:Addr} {B newId initId:String} {bmB:List Value} {E:XK} {np cpos pos:Pos} (FB:ExcBaseFacts B newId initId bmB) (hC:PySem.W.excIn X.K C bmB newId = true)
    (hg:Gl X x) (hm:X.mg x = some (.ref C)) (hc:X.calm = true) (ha:PA X (e :: es) ta)
    (hx:∀ (pins:List (Addr × Obj)) (σ:St) (H2:Hp) (s2:Shared) (h':Heap) (ea:Addr) (vs:List Value),Inv X pins σ H2 s2→Heap.MadeExcOf s2.heap h' ea (.ref C) vs→E (.ref C) none H2→X.xe (.ref ea) { s2 with heap:=h' })
    (hdb:(x == ("__debug__":Str)) = false) (he:starEach (e :: es) X.env = (false,eval e X.env) :: starEach es X.env) (hpl:(backTo cpos (starEach es X.env)).any (·.1) = false) :
    PS X (.Raise (some (.Call (.Name x np) (e :: es) [] cpos)) none pos) (tRaise (.ref C) E ta):=by
  intro pins s σ H D I h
  obtain ⟨bm,N,nm,qn,bs,hdct,sn,sub,ab,col,dd,k0,k1,k2,k3,k5,mN,hO,hN,hni,TL⟩:=exc_obj I.mod.kin hC
  refine wpAny_Raise_call_subT (C:=C) (nm:=nm) (q:=qn) (N:=N) (bs:=bs) (bm:=bm) (hdct:=hdct) (sn:=sn) (sub:=sub) (ab:=ab) (col:=col) (dd:=dd) (k0:=k0) (k1:=k1) (k2:=k2) (k3:=k3) (k5:=k5)
    FB (mN:=mN) (TL.hasType FB.hasBase) (I.ok.hd hc) (by rw [he]; show (false || (backTo cpos (starEach es X.env)).any (·.1)) = false; rw [hpl]; rfl) hni (ld_glob I hg hm ⟨rfl,?_⟩ hdb)
  have hA:=ha cpos pins s σ H _ I h
  rw [he] at hA ⊢
  refine Calls.evalArgs_plain (thn hA fun us s2 ⟨vs,H2,I2,r2,hz,q2⟩=>⟨rfl,?_,I2.bk _ _ hO,hN.keeps I2.bk,TL.keeps I2.bk,fun h' ea hmade=>hx pins σ H2 s2 h' ea us I2 hmade q2⟩)
  show us.length ≤ sizeLine
  rw [← r2.length]
  exact Nat.le_trans hz (by decide)
end
mutual
inductive Dat (K:PySem.W.Frag) (H:Hp):V→PyData→Prop where
  | non:Dat K H .non .none
  | bl (b:Bool):Dat K H (.bl b) (.bool b)
  | int (i:Int):Dat K H (.int i) (.int i)
  | str (x:Str):Dat K H (.str x) (.str x)
  | lst {a:Addr} {xs:List V} {ds:List PyData} (h:SqL K H a xs) (t:DatAll K H xs ds):Dat K H (.ref a) (.list ds)
  | tup {a:Addr} {xs:List V} {ds:List PyData} (h:SqT K H a xs) (t:DatAll K H xs ds):Dat K H (.ref a) (.tuple ds)
inductive DatAll (K:PySem.W.Frag) (H:Hp):List V→List PyData→Prop where
  | nil:DatAll K H [] []
  | cons {x:V} {xs:List V} {d:PyData} {ds:List PyData} (h:Dat K H x d) (t:DatAll K H xs ds):DatAll K H (x :: xs) (d :: ds)
end
section
variable {X:Cx} {pins:List (Addr × Obj)} {σ:St} {H:Hp} {s:Shared}
mutual
theorem Inv.dat (I:Inv X pins σ H s):∀ {x:V} {d:PyData} {u:Value},Dat X.K H x d→RelV x u→∃ as,Reads s.heap u d as
  | _,_,_,.non,r=>by cases (show _ = Value.none from r); exact ⟨_,.none⟩
  | _,_,_,.bl b,r=>by cases (show _ = Value.bool b from r); exact ⟨_,.bool b⟩
  | _,_,_,.int i,r=>by obtain ⟨t,rfl⟩:=(show ∃ t,_ = Value.int i t from r); exact ⟨_,.int i t⟩
  | _,_,_,.str x,r=>by obtain ⟨t,rfl⟩:=(show ∃ t,_ = Value.str x t from r); exact ⟨_,.str x t⟩
  | _,_,_,.lst (a:=a) h t,r=>by
    cases (show _ = Value.ref a from r)
    obtain ⟨its,rv,⟨o,n,e,c,_,d⟩,_⟩:=I.list h
    obtain ⟨as,z⟩:=Inv.datAll I t rv
    exact ⟨_,.list e c d (by simpa using z)⟩
  | _,_,_,.tup (a:=a) h t,r=>by
    cases (show _ = Value.ref a from r)
    obtain ⟨its,rv,⟨o,e,c,n,d⟩,_⟩:=I.tuple h
    obtain ⟨as,z⟩:=Inv.datAll I t rv
    exact ⟨_,.tuple e c d (by simpa using z)⟩
theorem Inv.datAll (I:Inv X pins σ H s):∀ {xs:List V} {ds:List PyData} {us:List Value},DatAll X.K H xs ds→Vals xs us→∃ as,ReadsAll s.heap us ds as
  | _,_,_,.nil,.nil=>⟨_,.nil⟩
  | _,_,_,.cons h t,.cons r rr=>by
    obtain ⟨as,z⟩:=Inv.dat I h r
    obtain ⟨bs,z'⟩:=Inv.datAll I t rr
    exact ⟨_,.cons z z'⟩
end
end
abbrev rEqD (K:PySem.W.Frag):R2:=fun x y H Q=>∃ da db,Dat K H x da∧Dat K H y db∧SeqAt.shaped da = true∧SeqAt.shaped db = true∧Q (.bl (PyData.eqv da db)) H
abbrev rNeD (K:PySem.W.Frag):R2:=fun x y H Q=>∃ da db,Dat K H x da∧Dat K H y db∧SeqAt.shaped da = true∧SeqAt.shaped db = true∧Q (.bl (!PyData.eqv da db)) H
section
variable {X:Cx}
theorem op_eqD (hu:X.A.units + 64 < cLine):OpR X (compareOp .Eq) (rEqD X.K):=by
  intro pins s σ H x y v u Q I rx ry h
  obtain ⟨da,db,h1,h2,s1,s2,q⟩:=h
  obtain ⟨as,z1⟩:=I.dat h1 rx
  obtain ⟨bs,z2⟩:=I.dat h2 ry
  exact eq_dataH z1 z2 s1 s2 hu ⟨.bl _,H,I,rfl,q⟩
theorem op_neD (hu:X.A.units + 64 < cLine):OpR X (compareOp .NotEq) (rNeD X.K):=by
  intro pins s σ H x y v u Q I rx ry h
  obtain ⟨da,db,h1,h2,s1,s2,q⟩:=h
  obtain ⟨as,z1⟩:=I.dat h1 rx
  obtain ⟨bs,z2⟩:=I.dat h2 ry
  exact ne_dataH z1 z2 s1 s2 hu ⟨.bl _,H,I,rfl,q⟩
end
theorem PS.nox {X:Cx} {st:Stmt} {t:TS} (h:PS X.nox st t):PS X st t:=fun pins s σ H D I hw=>
  wpAny_mono (h pins s σ H D (I.wish _) hw) (fun _ _ q=>q.unwish) fun _ _ z=>z.elim
section
variable {X:Cx} {e:Expr} {es:List Expr} {t:TA} {x:Str} {p pos np cpos hpos:Pos}
theorem ks_nox {st:Stmt} {t:TS} (h:QS X.nox st t):QS X st t:=⟨PS.nox h.p⟩
theorem pass1 {P:Program} {w:World}:Passes (CX1 P w) X E0:=fun _ _ _ _ _ _ _ ⟨_,_,_,_,_,_,_,_,_,_,_,q⟩=>q.elim
theorem ks_raise {C:Addr} {B newId initId:String} {bmB:List Value} {E:XK} (FB:ExcBaseFacts B newId initId bmB) (hC:PySem.W.excIn X.K C bmB newId = true) (hm:X.mg x = some (.ref C)) (ha:QA X (e :: es) t)
    (hx:∀ (pins:List (Addr × Obj)) (σ:St) (H2:Hp) (s2:Shared) (h':Heap) (ea:Addr) (vs:List Value),Inv X pins σ H2 s2→Heap.MadeExcOf s2.heap h' ea (.ref C) vs→E (.ref C) none H2→X.xe (.ref ea) { s2 with heap:=h' })
    (hg:X.env.kindOf x = some .globalImplicit:=by kernel_rfl) (hc:X.calm = true:=by kernel_rfl)
    (hdb:(x == ("__debug__":Str)) = false:=by kernel_rfl) (he:starEach (e :: es) X.env = (false,eval e X.env) :: starEach es X.env:=by kernel_rfl) (hpl:(backTo cpos (starEach es X.env)).any (·.1) = false:=by kernel_rfl) :
    QS X (.Raise (some (.Call (.Name x np) (e :: es) [] cpos)) none pos) (tRaise (.ref C) E t):=⟨ps_raise FB hC hg hm hc ha.p hx hdb he hpl⟩
end
theorem Fun.okX {P:Program} {w:World} {K:PySem.W.Frag} {mg:Str→Option Value} {base:Heap} {x qual:Str} {st:Stmt} {f:Addr} {fd:FuncData} {N ps:List Str} {k:Nat} {sp:Sp} (F:Fun K x qual st f fd) (S:FnScope N ps (defScope st)) {rd:XK→TS} (len:∀ vs H Q E,sp vs H Q E→vs.length = ps.length)
    (hb:∀ (cdv:Value) (A:Around) (outer:List Env) (s:Shared) (H:Hp) (E:XK),Room k (A.deeper (envOfC qual (defScope st) s.heap.objs.size f cdv))→QSs (cxOf (CX1 P w) P w K mg base N qual (defScope st) f cdv A outer s H E) (defBody st) (rd E))
    (hq:∀ (vs:List V) (H:Hp) (Q:VK) (E:XK),sp vs H Q E→rd E { nx:=fun _ H'=>Q .non H',rt:=Q } (start N vs) H):FnOk P w K mg base (CX1 P w) (k + 1) f fd ps sp:=by
  obtain ⟨oc,od,kV,doc,pm,an,cdv,ct,osl,rfl,lk,hcd⟩:=F.ex
  exact fn_of lk hcd S len fun A outer s H vs Q E hr hsp=>⟨rd E,(hb cdv A outer s H E hr).p,hq vs H Q E hsp⟩
end L2
namespace L2
open PySem PySem.Spec PyProof.Rows PySem.Builtin.Str
variable {X:Cx}
theorem Same.tup {K:PySem.W.Frag} {H H':Hp} {a:Addr} {xs:List V} (e:Same H H') (h:SqT K H a xs):SqT K H' a xs:=by
  rcases h with (h | ⟨o,h⟩) | h
  · exact .inl (.inl (e _ _ h))
  · exact .inl (.inr ⟨o,e _ _ h⟩)
  · exact .inr h
theorem seq_any {A C:TS} {D:Ends} {σ:St} {H:Hp} (h:∀ c:St→Hp→Prop,(∀ σ' H',C D σ' H'→c σ' H')→A { D with nx:=c } σ H):tSeq A C D σ H:=h _ fun _ _ z=>z
theorem seq_set {te:TE} {i:Nat} {C:TS} {D:Ends} {σ:St} {H:Hp} (h:∀ c:V→Hp→Prop,(∀ x H1,C D (σ.set i (some x)) H1→c x H1)→te σ H c):tSeq (tAsg te (gName i)) C D σ H:=h _ fun _ _ z=>z
theorem comp_lst {K:PySem.W.Frag} {a:Addr} {xs:List V} {σ:St} {fs:List Nat} {tt:TT} {te:TE} {H:Hp} {Q:VK} (Pv:Nat→List V→Hp→Prop) (h0:Pv 0 [] H) (hl:∀ i ys H,i ≤ xs.length→Pv i ys H→SqL K H a xs∧ys.length ≤ i) (hn:xs.length ≤ sizeLine)
    (hs:∀ i x ys H,xs[i]? = some x→Pv i ys H→∀ R:List V→Hp→Prop,(∀ ys' H',Pv (i + 1) ys' H'→R ys' H')→tt (some x :: compSt fs σ) H fun b H2=>if b = true then te (some x :: compSt fs σ) H2 fun y H3=>R (ys ++ [y]) H3 else R ys H2)
    (hd:∀ ys H,Pv xs.length ys H→∀ p,H p = none→Q (.ref p) (upd H p (.lst ys))) :
    ∃ W:Nat→Nat→List V→Hp→Prop,(∃ m,W 0 m [] H)∧∀ i m ys H,W i m ys H→ys.length ≤ sizeLine∧
      (((Itl K a).stop i H∧∀ p,H p = none→Q (.ref p) (upd H p (.lst ys))) ∨
       ((Itl K a).go i H∧ys.length < sizeLine∧∀ x H',(Itl K a).yld i H x H'→tt (some x :: compSt fs σ) H' fun b H2=>if b = true then te (some x :: compSt fs σ) H2 fun y H3=>∃ m',m' < m∧W (i + 1) m' (ys ++ [y]) H3 else ∃ m',m' < m∧W (i + 1) m' ys H2)):=by
  refine ⟨fun i m ys H=>m = xs.length - i∧i ≤ xs.length∧Pv i ys H,⟨xs.length,by simp,Nat.zero_le _,h0⟩,?_⟩
  rintro i m ys H ⟨rfl,hi,p⟩
  obtain ⟨hq,hle⟩:=hl i ys H hi p
  refine ⟨by omega,?_⟩
  by_cases hlt:i < xs.length
  · refine .inr ⟨⟨xs,xs[i],hq,by simp [hlt]⟩,by omega,fun x H' y=>?_⟩
    obtain ⟨e,y⟩:=y
    subst e
    exact hs i x ys _ (y xs hq) p (fun ys' H'=>∃ m',m' < xs.length - i∧m' = xs.length - (i + 1)∧i + 1 ≤ xs.length∧Pv (i + 1) ys' H') fun ys' H' q=>⟨xs.length - (i + 1),by omega,rfl,hlt,q⟩
  · have e:i = xs.length:=by omega
    subst e
    exact .inl ⟨⟨xs,hq,Nat.le_refl _⟩,hd ys H p⟩
theorem comp_by {wi:TI} {fs:List Nat} {tt:TT} {te:TE} {σ:St} {H:Hp} {Q:VK} (h:∀ R:It→Hp→Prop,(∀ J H1,R J H1 = ∃ W:Nat→Nat→List V→Hp→Prop,(∃ m,W 0 m [] H1)∧∀ i m ys H,W i m ys H→ys.length ≤ sizeLine∧
  ((J.stop i H∧∀ p,H p = none→Q (.ref p) (upd H p (.lst ys))) ∨
   (J.go i H∧ys.length < sizeLine∧∀ x H',J.yld i H x H'→tt (some x :: compSt fs σ) H' fun b H2=>if b = true then te (some x :: compSt fs σ) H2 fun y H3=>∃ m',m' < m∧W (i + 1) m' (ys ++ [y]) H3 else ∃ m',m' < m∧W (i + 1) m' ys H2)))→wi σ H R):tComp wi fs tt te σ H Q:=h _ fun _ _=>rfl
theorem comp_l {K:PySem.W.Frag} {tl:TE} {a:Addr} {xs:List V} {σ:St} {fs:List Nat} {tt:TT} {te:TE} {H:Hp} {Q:VK} (ha:∀ Q:VK,Q (.ref a) H→tl σ H Q) (hq:SqL K H a xs) (Pv:Nat→List V→Hp→Prop) (h0:Pv 0 [] H) (hl:∀ i ys H,i ≤ xs.length→Pv i ys H→SqL K H a xs∧ys.length ≤ i) (hn:xs.length ≤ sizeLine)
    (hs:∀ i x ys H,xs[i]? = some x→Pv i ys H→∀ R:List V→Hp→Prop,(∀ ys' H',Pv (i + 1) ys' H'→R ys' H')→tt (some x :: compSt fs σ) H fun b H2=>if b = true then te (some x :: compSt fs σ) H2 fun y H3=>R (ys ++ [y]) H3 else R ys H2)
    (hd:∀ ys H,Pv xs.length ys H→∀ p,H p = none→Q (.ref p) (upd H p (.lst ys))):tComp (iList K tl) fs tt te σ H Q:=ha _ ⟨a,rfl,⟨xs,hq⟩,comp_lst Pv h0 hl hn hs hd⟩
end L2
namespace Asc
open PySem PyProof.Rows
end Asc
namespace L2
open PySem PySem.Spec PyProof.Rows
def tComp2 (K:PySem.W.Frag) (wi:TI) (fs:List Nat) (tt:TT) (te:TE):TE:=fun σ H Q=>wi σ H fun J H1=>∃ W:Nat→Nat→List V→Hp→Prop,(∃ m,W 0 m [] H1)∧∀ i m ys H,W i m ys H→ys.length ≤ sizeLine∧
  ((J.stop i H∧∀ p,H p = none→Q (.ref p) (upd H p (.lst ys))) ∨
   (J.go i H∧ys.length < sizeLine∧∀ x H',J.yld i H x H'→∃ p v0 v1,x = .ref p∧SqT K H' p [v0,v1]∧tt (some v0 :: some v1 :: compSt fs σ) H' fun b H2=>if b = true then te (some v0 :: some v1 :: compSt fs σ) H2 fun y H3=>∃ m',m' < m∧W (i + 1) m' (ys ++ [y]) H3 else ∃ m',m' < m∧W (i + 1) m' ys H2))
section
variable {X:Cx}
theorem comp_block2 {elt iter:Expr} {x x2:Str} {px px2 ptg pos:Pos} {kt:Nat} {ifs:List Expr} {scope:Scope} {fs:List (Str × Nat)} {tt:TT} {te:TE}
    {pins:List (Addr × Obj)} {σ:St} {H2:Hp} {s2:Shared} {it:Addr} {fp:List Addr} {tn:Nat→Heap→Prop} {J:It} {cl:List (Str × Addr)} {E:Value→Shared→Prop}
    {P:Value→Addr→Result→Shared→Prop}
    (hc:X.calm = true) (hkind:scope.kind = .function) (hcell:∀ y ∈ scope.names,y.2 ≠ .cell) (hx:scope.names.lookup x = some .local) (hx2:scope.names.lookup x2 = some .local)
    (hnd:(x :: x2 :: fs.map (·.1)).Nodup) (hfs:∀ f ∈ fs,X.N[f.2]? = some f.1∧(X.env.kindOf f.1 = some .cell ∨ X.env.kindOf f.1 = some .free)∧scope.names.lookup f.1 = some .free)
    (hb:∀ (cl:List (Str × Addr)) (C:Addr) (s₀:Shared) (H₀:Hp) (ex:List Addr),PTs (cxComp X scope cl C (x :: x2 :: fs.map (·.1)) s₀ H₀ ex) ifs tt∧PE (cxComp X scope cl C (x :: x2 :: fs.map (·.1)) s₀ H₀ ex) elt te)
    (hcl1:∀ y ∈ cl,X.env.cells.lookup y.1 = some y.2) (hcl2:∀ y ∈ scope.names,y.2 = .free→∃ c,(y.1,c) ∈ cl)
    (I2:Inv X pins σ H2 s2) (T:Turn X.prog X.w X.K (.Tuple [.Name x px,.Name x2 px2] kt ptg) J fp it tn) (st2:tn 0 s2.heap) (f2:∀ b ∈ fp,FpOk X pins H2 b)
    (W:Nat→Nat→List V→Hp→Prop) (Qe:Hp→List V→Prop) (w0:∃ m,W 0 m [] H2)
    (turn:∀ i m ys H,W i m ys H→ys.length ≤ sizeLine∧
      ((J.stop i H∧Qe H ys) ∨
       (J.go i H∧ys.length < sizeLine∧∀ x H',J.yld i H x H'→∃ p v0 v1,x = .ref p∧SqT X.K H' p [v0,v1]∧tt (some v0 :: some v1 :: compSt (fs.map (·.2)) σ) H' fun b H2=>if b = true then te (some v0 :: some v1 :: compSt (fs.map (·.2)) σ) H2 fun y H3=>∃ m',m' < m∧W (i + 1) m' (ys ++ [y]) H3 else ∃ m',m' < m∧W (i + 1) m' ys H2)))
    (hP:∀ (D C:Addr) (H':Hp) (s':Shared) (ys:List V) (its:List Value) (m:Str→Option Value),s2.heap.objs.size ≤ C→s2.heap.get? D = none→s2.heap.get? C = none→D ≠ C→H' D = none→H' C = none→s'.heap.Ns C m→s'.heap.PlainList D its.toArray→Vals ys its→ys.length ≤ sizeLine→Qe H' ys→
      Un (frs X.stack) fp H2 H' s2.heap s'.heap→HOk X.prog X.w H' s'.heap→AllBare s'.gens→s'.os = s2.os→P (.ref D) C (.ok .next) s') :
    wpAny (model X.prog X.w) X.A (newList []) (fun acc s₃=>wpAny (model X.prog X.w) X.A (newFunctionEnv scope X.env.globals cl [] X.env.qual none .none (some X.env)) (fun cenv s₄=>
      codeAny (model X.prog X.w) X.A (.compStart (.ListComp elt [⟨.Tuple [.Name x px,.Name x2 px2] kt ptg,iter,ifs,0⟩] scope pos) 0 (.ref it) acc { cenv with scope:=relabel scope X.env }) (P acc cenv.locals) s₄) E s₃) E s2:=by
  refine wpAny_newObj_type (wpAny_newFunctionEnv hcell (by intro y hy; simp at hy) (fun h₁ hns₁ hsb₁=>?_) hkind)
  dsimp only at hns₁ hsb₁ ⊢
  generalize hH2:s2.heap.push { cls:=.type "list",dict:=none,data:=.seq ([]:List Value).toArray } = HH at hns₁ hsb₁ ⊢
  have hC:HH.objs.size = s2.heap.objs.size + 1:=by rw [← hH2,Heap.size_push]
  generalize eD:s2.heap.objs.size = D at *
  generalize eC:HH.objs.size = C at *
  have hDC:D ≠ C:=by rw [hC]; exact Nat.ne_of_lt (Nat.lt_succ_self _)
  have fresh:∀ a,D ≤ a→s2.heap.get? a = none:=fun a ha=>Heap.get?_none_of_le (by rw [eD]; exact ha)
  have hD0:s2.heap.get? D = none:=fresh D (Nat.le_refl _)
  have hC0:s2.heap.get? C = none:=fresh C (by rw [hC]; exact Nat.le_succ _)
  have old:∀ b o,s2.heap.get? b = some o→h₁.get? b = some o:=fun b o e=>hsb₁.extBut b o (fun z=>by rw [z,hC0] at e; cases e) (Heap.get?_push_of_some _ (hH2 ▸ Heap.get?_push_of_some _ e))
  have hacc:h₁.PlainList D #[]:=⟨0,hsb₁.extBut _ _ hDC (Heap.get?_push_of_some _ (hH2 ▸ (eD ▸ Heap.get?_push_size _ rfl)))⟩
  have HD:H2 D = none:=I2.hok.fresh (by rw [eD]; exact Nat.le_refl _)
  have HC:H2 C = none:=I2.hok.fresh (by rw [eD,hC]; exact Nat.le_succ _)
  -- the block's context
  let Y:Cx:=cxComp X scope cl C (x :: x2 :: fs.map (·.1)) s2 H2 fp
  have lk:∀ y c,cl.lookup y = some c→X.env.cells.lookup y = some c:=fun y c e=>hcl1 (y,c) (lookup_mem e)
  have yok:Y.Ok:=by
    refine ⟨I2.ok.mod,hkind,I2.ok.glob,I2.ok.blt,?_,fun y z c h1 h2=>I2.ok.inj y z c (lk y c h1) (lk z c h2),fun y hy=>?_,fun _ _ h _=>absurd h Bool.false_ne_true,I2.ok.hd,I2.ok.frames,.inl rfl,fun b hb=>?_,I2.bs,?_,fun b o e hb=>?_,fun b hb hz=>?_,I2.stack,I2.stkFree⟩
    · show s2.heap.objs.size ≤ C
      rw [eD,hC]; exact Nat.le_succ _
    · have hy':(relabel scope X.env).names.lookup y = some .cell ∨ (relabel scope X.env).names.lookup y = some .free:=hy
      have hm:(y,NameKind.free) ∈ scope.names:=by
        rcases hy' with e | e
        · rcases relabel_mem (lookup_mem e) with q | ⟨_,q⟩
          · exact absurd rfl (hcell _ q)
          · exact q
        · rcases relabel_mem (lookup_mem e) with q | ⟨q,_⟩
          · exact q
          · cases q
      obtain ⟨c,q⟩:=hcl2 _ hm rfl
      exact mem_lookup q
    · obtain ⟨f0,f1,f3,f4,f5,f6⟩:=f2 b hb
      refine ⟨fun z=>?_,fun y c e=>f5 y c (lk y c e)⟩
      obtain ⟨o,ho,_⟩:=T.obj _ _ st2 b hb
      have z':b = C:=z
      rw [z',hC0] at ho; cases ho
    · exact Nat.le_trans I2.ok.bsz I2.sz
    · obtain ⟨f0,f1,f3,f4,f5,f6⟩:=f2 b hb
      rcases f4 with z | z
      · exact I2.ok.noex b o e z
      · exact absurd (Nat.lt_of_lt_of_le (Heap.lt_size e) (Nat.le_trans I2.ok.bsz z)) (Nat.lt_irrefl _)
    · obtain ⟨f0,f1,f3,f4,f5,f6⟩:=f2 b hb
      rcases List.mem_cons.mp (I2.stkSub b hz) with z | z
      · exact f1 z
      · exact f3 z
  let τ:St:=none :: none :: compSt (fs.map (·.2)) σ
  have hτ:τ.length = (x :: x2 :: fs.map (·.1)).length:=by simp [τ,compSt]
  obtain ⟨mL,hnL,hlL⟩:=id I2.loc
  have yI:Inv Y [] τ H2 { s2 with heap:=h₁,toks:=s2.toks + ([]:List (Str × Value)).length }:=by
    refine ⟨yok,rfl,I2.bare,Un.kept old,⟨_,hns₁,fun i y v e1 e2 e3=>?_⟩,fun y c e=>?_,HC,fun y c e=>I2.freeC y c (lk y c e),(fun p hp=>nomatch hp),I2.hok.kept old,hτ⟩
    · cases i with
      | zero=>simp [τ] at e2
      | succ i0=>
       cases i0 with
       | zero=>simp [τ] at e2
       | succ i=>
        have e1':(fs.map (·.1))[i]? = some y:=e1
        have e2':(compSt (fs.map (·.2)) σ)[i]? = some (some v):=by simpa [τ] using e2
        rw [List.getElem?_map] at e1'
        cases q:fs[i]? with
        | none=>rw [q] at e1'; cases e1'
        | some f=>
          rw [q] at e1'
          have ey:f.1 = y:=Option.some.inj e1'
          obtain ⟨g1,g2,g3⟩:=hfs f (List.mem_of_getElem? q)
          have e2'':(σ[f.2]?).join = some v:=by
            unfold compSt at e2'
            rw [List.getElem?_map,List.getElem?_map,q] at e2'
            exact Option.some.inj e2'
          have e2c:σ[f.2]? = some (some v):=by
            cases r:σ[f.2]? with
            | none=>rw [r] at e2''; cases e2''
            | some o=>rw [r] at e2''; have e2'':o = some v:=e2''; rw [e2'']
          have vis:Vis X.env.scope f.1:=by
            rcases g2 with g | g
            · exact .inr (.inl g)
            · exact .inr (.inr g)
          obtain ⟨u,ru,lu⟩:=hlL f.2 f.1 v g1 e2c vis
          refine ⟨u,ru,?_⟩
          have lu':∃ c,X.env.cells.lookup f.1 = some c∧s2.heap.IsCell c (some u):=by
            rcases lu with ⟨k,_⟩ | ⟨_,c,e,z⟩
            · rcases g2 with g | g
              · rw [k] at g; cases g
              · rw [k] at g; cases g
            · exact ⟨c,e,z⟩
          obtain ⟨c,hc1,hc2⟩:=lu'
          obtain ⟨c',hm⟩:=hcl2 _ (lookup_mem g3) rfl
          have hm':=hcl1 _ hm
          obtain ⟨c2,hl2⟩:=mem_lookup hm
          have:=lk _ _ hl2
          rw [hc1] at this; cases this
          obtain ⟨oc,ho,hdt⟩:=hc2
          refine .inr ⟨?_,c,by rw [← ey]; exact hl2,oc,old c oc ho,hdt⟩
          rw [← ey]
          exact lookup_relabel_free g3
    · obtain ⟨v,oc,ho,hdt⟩:=I2.cell y c (lk y c e)
      exact ⟨v,oc,old c oc ho,hdt⟩
  have hx':Y.env.scope.names.lookup x = some .local:=lookup_relabel_local hx
  have hx2':Y.env.scope.names.lookup x2 = some .local:=lookup_relabel_local hx2
  have fpD:∀ b ∈ fp,b ≠ D:=fun b hb z=>by
    obtain ⟨o,ho,_⟩:=T.obj _ _ st2 b hb
    rw [z,hD0] at ho; cases ho
  have stD:D ∉ frs X.stack:=fun hz=>by
    rcases List.mem_cons.mp (I2.stkSub D hz) with z | z
    · have:=I2.lt; rw [eD,← z] at this; exact absurd this (Nat.lt_irrefl _)
    · exact I2.nofs (by rw [eD]; exact Nat.le_refl _) z
  have cellD:∀ y c,cl.lookup y = some c→c ≠ D:=fun y c e z=>by
    obtain ⟨v,oc,ho,_⟩:=I2.cell y c (lk y c e)
    rw [z,hD0] at ho; cases ho
  have stat:∀ {H':Hp} {oD:Obj},(∀ b ∈ fp,H' b = none)→∀ b ∈ fp,FpOk Y [(D,oD)] H' b:=fun hn b hb=>by
    refine ⟨hn b hb,(yok.exf b hb).1,yok.exfs b hb,.inl hb,(yok.exf b hb).2,fun p hp z=>?_⟩
    have hp':p ∈ [(D,_)]:=hp
    rw [List.mem_singleton.mp hp'] at z
    exact fpD b hb z.symm
  obtain ⟨m0,w0⟩:=w0
  have loop:∀ s₃:Shared,s₃ = { s2 with heap:=h₁,toks:=s2.toks + ([]:List (Str × Value)).length }→
      codeAny (model X.prog X.w) X.A (.compLoop (.ListComp elt [⟨.Tuple [.Name x px,.Name x2 px2] kt ptg,iter,ifs,0⟩] scope pos) 0 (.ref it) (.ref D) (compEnvC scope cl C X.env)) (P (.ref D) C) s₃:=by
    rintro s₃ rfl
    refine compLoop_any (fun n s'=>∃ i ys its H',Inv Y [] τ H' s'∧tn i s'.heap∧(∀ b ∈ fp,H' b = none)∧H' D = none∧s'.heap.PlainList D (List.toArray its)∧Vals ys its∧W i n ys H') ?_ m0
      ⟨0,[],[],H2,yI,T.keep _ _ _ st2 (fun b _ o e=>old b o e),fun b hb=>(f2 b hb).1,HD,hacc,.nil,w0⟩
    rintro n s3 ⟨i,ys,its,H3,I3,st3,fr3,hD3,⟨n0,hoD⟩,rv3,w3⟩
    obtain ⟨hz,ht⟩:=turn i n ys H3 w3
    have I3':Inv Y [(D,{ cls:=.type "list",data:=.seq its.toArray n0 })] τ H3 s3:=I3.pins_of fun p hp=>by
      rw [List.mem_singleton.mp hp]
      exact ⟨hoD,hD3,hDC,stD,fun v z=>by cases z⟩
    rcases ht with ⟨stop,q⟩ | ⟨go,hz',step⟩
    · refine thn (T.done Y rfl rfl rfl hc i _ s3 τ H3 _ I3' (stat fr3) st3 stop) fun r s4 ⟨hr,I4⟩=>?_
      subst hr
      obtain ⟨m,hn,_⟩:=I4.loc
      exact hP D C H3 s4 ys its m (by rw [hC]; exact Nat.le_succ _) hD0 hC0 hDC hD3 I4.free hn ⟨n0,(I4.pin (D,_) (List.mem_append_right _ List.mem_cons_self)).1⟩ rv3 hz q I4.base I4.hok I4.bare I4.os
    · refine thn (T.item Y rfl rfl rfl hc i _ s3 τ H3 _ I3' (stat fr3) st3 go) fun r s4 ⟨u,hr,h4⟩=>?_
      subst hr
      refine thn h4 fun _ s5 ⟨x',H5,I5,r5,y5,st5,fr5⟩=>?_
      have I5':=I5.pinned (fp:=fp) (stat fr5) (T.obj _ _ st5)
      obtain ⟨pt,v0,v1,ex',hqt,step'⟩:=step x' H5 y5
      refine thn (pg_tup (X:=Y) (pos:=ptg) (k:=kt) (n:=2) hc (pgs_cons (pg_name (X:=Y) (i:=0) (pos:=px) hnd rfl (.inl hx') (.inr hx')) (pgs_cons (pg_name (X:=Y) (i:=1) (pos:=px2) hnd rfl (.inl hx2') (.inr hx2')) pgs_nil)) rfl rfl _ s5 τ H5 x' u (fun σ' H'=>σ' = some v0 :: some v1 :: compSt (fs.map (·.2)) σ∧H' = H5) I5' r5 ⟨pt,[v0,v1],ex',hqt,rfl,v0,[v1],rfl,v1,[],rfl,rfl,rfl,rfl⟩) fun _ s6 ⟨σ6,H6,I6,e6,e6'⟩=>?_
      subst e6 e6'
      have back:∀ {σ':St} {H':Hp} {s':Shared},Inv Y ([(D,{ cls:=.type "list",data:=.seq its.toArray n0 })] ++ pinsAt fp s5.heap) (some v0 :: some v1 :: compSt (fs.map (·.2)) σ) H' s'→
          Inv Y [] τ H' s'∧tn (i + 1) s'.heap∧(∀ b ∈ fp,H' b = none)∧H' D = none∧s'.heap.PlainList D its.toArray:=fun {σ' H' s'} J'=>by
        refine ⟨(J'.pins_of (pins':=[]) (fun p hp=>absurd hp (by simp))).weak rfl fun j v e=>?_,T.keep _ _ _ st5 fun b hb o e=>(J'.pin (b,o) (List.mem_append_right _ (List.mem_append_right _ (mem_pinsAt hb e)))).1,fun b hb=>?_,?_,n0,?_⟩
        · cases j with
          | zero=>cases e
          | succ j0=>
            cases j0 with
            | zero=>cases e
            | succ j=>exact e
        · obtain ⟨o,e,d⟩:=T.obj _ _ st5 b hb
          exact (J'.pin (b,o) (List.mem_append_right _ (List.mem_append_right _ (mem_pinsAt hb e)))).2.1
        · exact (J'.pin (D,_) (List.mem_append_right _ (List.mem_append_left _ List.mem_cons_self))).2.1
        · exact (J'.pin (D,_) (List.mem_append_right _ (List.mem_append_left _ List.mem_cons_self))).1
      refine thn ((hb cl C s2 H2 fp).1 _ s6 _ _ _ I6 step') fun ok s7 ⟨H7,I7,q7⟩=>?_
      cases ok with
      | false=>
        obtain ⟨m',hm,w7⟩:=q7
        obtain ⟨a1,a2,a3,a4,a5⟩:=back (σ':=τ) I7
        exact ⟨m',hm,i + 1,ys,its,H7,a1,a2,a3,a4,a5,rv3,w7⟩
      | true=>
        refine thn ((hb cl C s2 H2 fp).2 _ s7 _ _ _ I7 q7) fun y s8 ⟨yv,H8,I8,ry,m',hm,w8⟩=>?_
        obtain ⟨a1,a2,a3,a4,a5⟩:=back (σ':=τ) I8
        have hlen:=rv3.length
        refine wpAny_list_append_plain (hsz:=by rw [List.size_toArray,← hlen]; exact hz) a5 fun h' hl' hs'=>?_
        refine ⟨m',hm,i + 1,ys ++ [yv],its ++ [y],H8,a1.turned (t':=s8.toks) (it:=D) (fun b o hb e=>hs'.extBut b o hb e) a4 hDC (.inr (by show s2.heap.objs.size ≤ D; rw [eD]; exact Nat.le_refl _)) (fun y c e=>cellD y c e) (fun p hp=>absurd (show p ∈ ([]:List (Addr × Obj)) from hp) (by simp)),T.keep _ _ _ a2 fun b hb o e=>hs'.extBut b o (fpD b hb) e,a3,a4,by simpa using hl',rv3.append (.cons ry .nil),w8⟩
  exact codeAny_compStart_list (loop _ rfl) (T.self X.A 0 _ _ _ (T.keep _ _ _ st2 (fun b _ o e=>old b o e)) (loop _ rfl))
theorem pe_comp2 {elt iter:Expr} {x x2:Str} {px px2 ptg pos:Pos} {kt:Nat} {ifs:List Expr} {scope:Scope} (fs:List (Str × Nat)) {wi:TI} {tt:TT} {te:TE}
    (hc:X.calm = true) (hkind:scope.kind = .function) (hcell:∀ y ∈ scope.names,y.2 ≠ .cell) (hnames:∀ y ∈ scope.names,y.2 = .local→scope.names.lookup y.1 = some .local)
    (hfree:∀ y ∈ scope.names,y.2 = .free→X.env.kindOf y.1 = some .cell ∨ X.env.kindOf y.1 = some .free) (hx:scope.names.lookup x = some .local) (hx2:scope.names.lookup x2 = some .local)
    (hnd:(x :: x2 :: fs.map (·.1)).Nodup) (hfs:∀ f ∈ fs,X.N[f.2]? = some f.1∧(X.env.kindOf f.1 = some .cell ∨ X.env.kindOf f.1 = some .free)∧scope.names.lookup f.1 = some .free)
    (hi:PI X (.Tuple [.Name x px,.Name x2 px2] kt ptg) iter wi)
    (hb:∀ (cl:List (Str × Addr)) (C:Addr) (s₀:Shared) (H₀:Hp) (ex:List Addr),PTs (cxComp X scope cl C (x :: x2 :: fs.map (·.1)) s₀ H₀ ex) ifs tt∧PE (cxComp X scope cl C (x :: x2 :: fs.map (·.1)) s₀ H₀ ex) elt te)
    (hs:∀ x,foldedSetIterable iter X.env x = pure x:=by intro _; rfl) :
    PE X (.ListComp elt [⟨.Tuple [.Name x px,.Name x2 px2] kt ptg,iter,ifs,0⟩] scope pos) (tComp2 X.K wi (fs.map (·.2)) tt te):=by
  intro pins s σ H Q I h
  obtain ⟨cl,hclos,hcl1,hcl2⟩:=closureFor_ex (env:=X.env) (scope:=scope) fun y hy hk=>I.ok.has y.1 (hfree y hy hk)
  rw [eval_ListComp]
  refine wpAny_comprehension_free (use:=none) rfl hs hclos hkind hnames (thn (hi pins s σ H _ I h) fun v s1 h1=>thn h1 fun itv s2 h2=>?_)
  obtain ⟨it,fp,tn,J,H2,e,I2,T,st2,f2,W,w0,turn⟩:=h2
  subst e
  refine comp_block2 (pins:=pins) hc hkind hcell hx hx2 hnd hfs hb hcl1 hcl2 I2 T st2 f2 W (fun H ys=>∀ p,H p = none→Q (.ref p) (upd H p (.lst ys))) w0 turn ?_
  intro D C H' s' ys its m hCs hD hC hDC HD HC hn pl rv hz q u hok hg ho
  exact ⟨m,hn,fun h' hs'=>⟨.ref D,_,comp_after (tk:=s'.toks) I2 f2 hD hC hDC HD HC pl rv hz u hok hg ho hs',rfl,q D HD⟩⟩
end
section
variable {X:Cx} {iter:Expr} {x x2:Str} {px px2 ptg pos:Pos} {kt:Nat}
def compLook2 (names:List (Str × NameKind)) (outer:List (Str × NameKind)) (N:List Str) (x x2:Str) (fs:List (Str × Nat)):Bool:=
  compLook names outer N x fs && (names.lookup x2 == some .local) && decide ((x :: x2 :: fs.map (·.1)).Nodup)
theorem ke_comp2 {elt:Expr} {ifs:List Expr} {scope:Scope} (fs:List (Str × Nat)) {wi:TI} {tt:TT} {te:TE}
    (hi:QI X (.Tuple [.Name x px,.Name x2 px2] kt ptg) iter wi)
    (hb:∀ (cl:List (Str × Addr)) (C:Addr) (s₀:Shared) (H₀:Hp) (ex:List Addr),QTs (cxComp X scope cl C (x :: x2 :: fs.map (·.1)) s₀ H₀ ex) ifs tt∧QE (cxComp X scope cl C (x :: x2 :: fs.map (·.1)) s₀ H₀ ex) elt te)
    (hc:X.calm = true:=by kernel_rfl) (hk:scope.kind = .function:=by kernel_rfl) (hl:compLook2 scope.names X.env.scope.names X.N x x2 fs = true:=by kernel_rfl)
    (hs:∀ x,foldedSetIterable iter X.env x = pure x:=by intro _; kernel_rfl) :
    QE X (.ListComp elt [⟨.Tuple [.Name x px,.Name x2 px2] kt ptg,iter,ifs,0⟩] scope pos) (tComp2 X.K wi (fs.map (·.2)) tt te):=by
  unfold compLook2 at hl
  simp only [Bool.and_eq_true,beq_iff_eq,decide_eq_true_eq] at hl
  have O:=compOk_of (X:=X) hk hl.1.1
  exact ⟨pe_comp2 fs hc O.kind O.cell O.names O.free O.hx hl.1.2 hl.2 O.fs hi.p (fun cl C s₀ H₀ ex=>⟨(hb cl C s₀ H₀ ex).1.p,(hb cl C s₀ H₀ ex).2.p⟩) hs⟩
end
theorem comp2_l {K:PySem.W.Frag} {tl:TE} {a:Addr} {xs:List V} {σ:St} {fs:List Nat} {tt:TT} {te:TE} {H:Hp} {Q:VK} (ha:∀ Q:VK,Q (.ref a) H→tl σ H Q) (hq:SqL K H a xs) (Pv:Nat→List V→Hp→Prop) (h0:Pv 0 [] H) (hl:∀ i ys H,i ≤ xs.length→Pv i ys H→SqL K H a xs∧ys.length ≤ i) (hn:xs.length ≤ sizeLine)
    (hs:∀ i x ys H,xs[i]? = some x→Pv i ys H→∃ p v0 v1,x = .ref p∧SqT K H p [v0,v1]∧∀ R:List V→Hp→Prop,(∀ ys' H',Pv (i + 1) ys' H'→R ys' H')→tt (some v0 :: some v1 :: compSt fs σ) H fun b H2=>if b = true then te (some v0 :: some v1 :: compSt fs σ) H2 fun y H3=>R (ys ++ [y]) H3 else R ys H2)
    (hd:∀ ys H,Pv xs.length ys H→∀ p,H p = none→Q (.ref p) (upd H p (.lst ys))):tComp2 K (iList K tl) fs tt te σ H Q:=by
  refine ha _ ⟨a,rfl,⟨xs,hq⟩,?_⟩
  refine ⟨fun i m ys H=>m = xs.length - i∧i ≤ xs.length∧Pv i ys H,⟨xs.length,by simp,Nat.zero_le _,h0⟩,?_⟩
  rintro i m ys H ⟨rfl,hi,p⟩
  obtain ⟨hq,hle⟩:=hl i ys H hi p
  refine ⟨by omega,?_⟩
  by_cases hlt:i < xs.length
  · refine .inr ⟨⟨xs,xs[i],hq,by simp [hlt]⟩,by omega,fun x H' y=>?_⟩
    obtain ⟨e,y⟩:=y
    subst e
    obtain ⟨pt,v0,v1,e,hqt,h⟩:=hs i x ys _ (y xs hq) p
    exact ⟨pt,v0,v1,e,hqt,h (fun ys' H'=>∃ m',m' < xs.length - i∧m' = xs.length - (i + 1)∧i + 1 ≤ xs.length∧Pv (i + 1) ys' H') fun ys' H' q=>⟨xs.length - (i + 1),by omega,rfl,hlt,q⟩⟩
  · have e:i = xs.length:=by omega
    subst e
    exact .inl ⟨⟨xs,hq,Nat.le_refl _⟩,hd ys H p⟩
end L2
namespace MaxD
open PySem PyProof.Rows
end MaxD
namespace L2
open PySem PySem.Spec PyProof.Rows
section
variable {X:Cx} {e o value d:Expr} {es:List Expr} {f x m:Str} {pos pos' p apos kp:Pos} {ta tv td:TE} {t:TA}
theorem ke_gint {n:Int} (hm:∃ t,X.mg x = some (.int n t)) (hg:X.env.kindOf x = some .globalImplicit:=by kernel_rfl) (hd:(x == ("__debug__":Str)) = false:=by kernel_rfl):QE X (.Name x pos) (tC (.int n)):=by
  obtain ⟨t,hm⟩:=hm
  exact ⟨pe_glob (v:=.int n) hg hm ⟨t,rfl⟩ hd⟩
theorem ke_fld (he:QE X e ta) (hb:attributeBase e f X.env (eval e X.env) = eval e X.env:=by kernel_rfl):QE X (.Attribute e f pos) (tFld X.K ta f):=⟨pe_fld he.p hb⟩
theorem ks_fld (ha:QE X o ta) (hv:QE X value tv) (hs:swapsWith value (some (.Attribute o f pos')) pos.line X.env = pure false:=by kernel_rfl):QS X (.Assign [.Attribute o f pos'] value pos) (sFld X.K ta tv f):=⟨ps_fld ha.p hv.p hs⟩
variable {CX:CXT} {k:Nat} {g C:Addr} {fd:FuncData} {ps:List Str} {sp:Sp} {E:XK}
theorem ke_meth {pl:Sem Bool} (he:QE X o ta) (c:Cls X.K C) (hm:Meth X.K C m g) (F:FnOk X.prog X.w X.K X.mg X.base CX k g fd ps sp) (hr:Room k X.A) (hb:Binds X.K fd ps []) (hx:Passes CX X E) (ha:QA X (e :: es) t)
    (hst:starEach (e :: es) X.env = (false,eval e X.env) :: starEach es X.env:=by kernel_rfl) (hpl:(backTo pos (starEach es X.env)).any (·.1) = false:=by kernel_rfl)
    (ht:eval (.Call (.Attribute o m apos) (e :: es) [] pos) X.env = (do
      let ov ← eval o X.env
      standAt apos.atName
      let (f,first) ← holding [ov] (getMethod ov m pl)
      callWith pos f first (backTo pos (starEach (e :: es) X.env)) (backToKw pos (keywordEach [] X.env))):=by rfl) :
    QE X (.Call (.Attribute o m apos) (e :: es) [] pos) (tMeth C m sp [] E ta t):=⟨pe_meth he.p c hm F hr hb .nil hx ha.p hst hpl ht⟩
theorem ke_meth0 {pl:Sem Bool} (he:QE X o ta) (c:Cls X.K C) (hm:Meth X.K C m g) (F:FnOk X.prog X.w X.K X.mg X.base CX k g fd ps sp) (hr:Room k X.A) (hb:Binds X.K fd ps []) (hx:Passes CX X E)
    (ht:eval (.Call (.Attribute o m apos) [] [] pos) X.env = (do
      let ov ← eval o X.env
      standAt apos.atName
      let (f,first) ← holding [ov] (getMethod ov m pl)
      callWith pos f first (backTo pos (starEach [] X.env)) (backToKw pos (keywordEach [] X.env))):=by rfl) :
    QE X (.Call (.Attribute o m apos) [] [] pos) (tMeth C m sp [] E ta tNil):=⟨pe_meth0 he.p c hm F hr hb .nil hx ht⟩
theorem ke_make (M:Mk X.K C g) (F:FnOk X.prog X.w X.K X.mg X.base CX k g fd ps sp) (hr:Room (k + 1) X.A) (hm:X.mg x = some (.ref C)) (hb:Binds X.K fd ps []) (hx:Passes CX X E) (ha:QA X (e :: es) t)
    (hg:X.env.kindOf x = some .globalImplicit:=by kernel_rfl) (hdb:(x == ("__debug__":Str)) = false:=by kernel_rfl) (he:starEach (e :: es) X.env = (false,eval e X.env) :: starEach es X.env:=by kernel_rfl) (hpl:(backTo pos (starEach es X.env)).any (·.1) = false:=by kernel_rfl) :
    QE X (.Call (.Name x p) (e :: es) [] pos) (tMake C sp [] E t):=⟨pe_make M F hr hg hm hb .nil hx ha.p hdb he hpl⟩
end
theorem ex1 {α:Type} {us:List α} (hl:us.length = 1):∃ a0,us = [a0]:=by
  match us,hl with
  | [_],_=>exact ⟨_,rfl⟩
theorem ex2 {α:Type} {us:List α} (hl:us.length = 2):∃ a0 a1,us = [a0,a1]:=by
  match us,hl with
  | [_,_],_=>exact ⟨_,_,rfl⟩
theorem ex3 {α:Type} {us:List α} (hl:us.length = 3):∃ a0 a1 a2,us = [a0,a1,a2]:=by
  match us,hl with
  | [_,_,_],_=>exact ⟨_,_,_,rfl⟩
theorem ex4 {α:Type} {us:List α} (hl:us.length = 4):∃ a0 a1 a2 a3,us = [a0,a1,a2,a3]:=by
  match us,hl with
  | [_,_,_,_],_=>exact ⟨_,_,_,_,rfl⟩
theorem ex5 {α:Type} {us:List α} (hl:us.length = 5):∃ a0 a1 a2 a3 a4,us = [a0,a1,a2,a3,a4]:=by
  match us,hl with
  | [_,_,_,_,_],_=>exact ⟨_,_,_,_,_,rfl⟩
theorem ex6 {α:Type} {us:List α} (hl:us.length = 6):∃ a0 a1 a2 a3 a4 a5,us = [a0,a1,a2,a3,a4,a5]:=by
  match us,hl with
  | [_,_,_,_,_,_],_=>exact ⟨_,_,_,_,_,_,rfl⟩
theorem ex7 {α:Type} {us:List α} (hl:us.length = 7):∃ a0 a1 a2 a3 a4 a5 a6,us = [a0,a1,a2,a3,a4,a5,a6]:=by
  match us,hl with
  | [_,_,_,_,_,_,_],_=>exact ⟨_,_,_,_,_,_,_,rfl⟩
end L2
namespace MM
def val (K:Nat):List Nat→Nat→Nat
  | _,0=>0
  | [],_ + 1=>0
  | c :: m,n + 1=>(c - 97) * K ^ n + val K m n
def Ls (K:Nat) (m:List Nat):Prop:=∀ c ∈ m,97 ≤ c∧c < 97 + K
def Na (m:List Nat):Prop:=∀ c,m.getLast? = some c→c ≠ 97
structure Mark (K:Nat) (m:List Nat):Prop where
  ls:Ls K m
  na:Na m
  ne:m ≠ []
theorem Ls.tail {K c:Nat} {m:List Nat} (h:Ls K (c :: m)):Ls K m:=fun x hx=>h x (List.mem_cons_of_mem _ hx)
theorem Ls.head {K c:Nat} {m:List Nat} (h:Ls K (c :: m)):97 ≤ c∧c < 97 + K:=h c List.mem_cons_self
theorem Ls.nil (K:Nat):Ls K []:=fun _ h=>nomatch h
theorem Ls.mono {K L:Nat} {m:List Nat} (h:Ls K m) (hl:K ≤ L):Ls L m:=fun c hc=>⟨(h c hc).1,by have:=(h c hc).2; omega⟩
theorem Ls.sub {K:Nat} {a b:List Nat} (h:Ls K b) (s:∀ c ∈ a,c ∈ b):Ls K a:=fun c hc=>h c (s c hc)
theorem Na.nil:Na []:=fun c h=>by simp at h
theorem Na.tail {c:Nat} {m:List Nat} (h:Na (c :: m)):Na m:=fun x hx=>by
  cases m with
  | nil=>simp at hx
  | cons d r=>exact h x (by rw [List.getLast?_cons_cons]; exact hx)
theorem val_zero (K:Nat) (m:List Nat):val K m 0 = 0:=by cases m <;> rfl
theorem val_nil (K n:Nat):val K [] n = 0:=by cases n <;> rfl
theorem val_cons (K c n:Nat) (m:List Nat):val K (c :: m) (n + 1) = (c - 97) * K ^ n + val K m n:=rfl
theorem val_lt {K:Nat} (hK:0 < K):∀ {m:List Nat} (n:Nat),Ls K m→val K m n < K ^ n
  | m,0,_=>by rw [val_zero]; exact Nat.one_pos
  | [],n + 1,_=>by rw [val_nil]; exact Nat.pow_pos hK
  | c :: m,n + 1,h=>by
    have ih:=val_lt hK n h.tail
    have hc:=h.head
    rw [val_cons,Nat.pow_succ]
    have h1:(c - 97) * K ^ n + K ^ n ≤ K ^ n * K:=by
      have:(c - 97 + 1) * K ^ n ≤ K * K ^ n:=Nat.mul_le_mul_right _ (by omega)
      rw [Nat.add_mul,Nat.one_mul,Nat.mul_comm K] at this
      exact this
    omega
theorem val_pos {K:Nat} (hK:0 < K):∀ {m:List Nat} (n:Nat),Ls K m→Na m→m ≠ []→m.length ≤ n→0 < val K m n
  | [],_,_,_,h,_=>absurd rfl h
  | c :: m,0,_,_,_,h=>by simp at h
  | [c],n + 1,h,hn,_,_=>by
    have h1:=h.head
    have h2:=hn c (by simp)
    rw [val_cons,val_nil]
    have:0 < (c - 97) * K ^ n:=Nat.mul_pos (by omega) (Nat.pow_pos hK)
    omega
  | c :: d :: m,n + 1,h,hn,_,hl=>by
    have:=val_pos hK n h.tail hn.tail (List.cons_ne_nil _ _) (by simpa using hl)
    rw [val_cons]; omega
theorem lt_parts {a b x y P:Nat} (hx:x < P) (hy:y < P):a * P + x < b * P + y ↔ a < b ∨ a = b∧x < y:=by
  constructor
  · intro h
    rcases Nat.lt_trichotomy a b with g | g | g
    · exact .inl g
    · subst g; exact .inr ⟨rfl,by omega⟩
    · have:(b + 1) * P ≤ a * P:=Nat.mul_le_mul_right _ g
      rw [Nat.add_mul] at this; omega
  · rintro (g | ⟨rfl,g⟩)
    · have:(a + 1) * P ≤ b * P:=Nat.mul_le_mul_right _ g
      rw [Nat.add_mul] at this; omega
    · omega
theorem eq_parts {a b x y P:Nat} (hx:x < P) (hy:y < P):a * P + x = b * P + y ↔ a = b∧x = y:=by
  constructor
  · intro h
    rcases Nat.lt_trichotomy a b with g | g | g
    · have:(a + 1) * P ≤ b * P:=Nat.mul_le_mul_right _ g
      rw [Nat.add_mul] at this; omega
    · subst g; exact ⟨rfl,by omega⟩
    · have:(b + 1) * P ≤ a * P:=Nat.mul_le_mul_right _ g
      rw [Nat.add_mul] at this; omega
  · rintro ⟨rfl,rfl⟩; rfl
theorem sub97 {c d:Nat} (hc:97 ≤ c) (hd:97 ≤ d):(c - 97 < d - 97 ↔ c < d)∧(c - 97 = d - 97 ↔ c = d):=⟨by omega,by omega⟩
theorem lt_val {K:Nat} (hK:0 < K):∀ {a b:List Nat} (n:Nat),Ls K a→Ls K b→Na a→Na b→a.length ≤ n→b.length ≤ n→(a < b ↔ val K a n < val K b n)
  | [],[],n,_,_,_,_,_,_=>by rw [val_nil]; simp
  | [],c :: b,n,_,hb,_,nb,_,lb=>by
    rw [val_nil]
    have:=val_pos hK n hb nb (List.cons_ne_nil _ _) lb
    simp [this]
  | c :: a,[],n,_,_,_,_,_,_=>by rw [val_nil]; simp
  | c :: a,d :: b,0,_,_,_,_,la,_=>by simp at la
  | c :: a,d :: b,n + 1,ha,hb,na,nb,la,lb=>by
    have ih:=lt_val hK n ha.tail hb.tail na.tail nb.tail (by simpa using la) (by simpa using lb)
    rw [List.cons_lt_cons_iff,val_cons,val_cons,lt_parts (val_lt hK n ha.tail) (val_lt hK n hb.tail),(sub97 ha.head.1 hb.head.1).1,(sub97 ha.head.1 hb.head.1).2,ih]
theorem low_val {K:Nat} (hK:0 < K):∀ {l x:List Nat} (n:Nat),Ls K l→Ls K x→Na x→x.length = n→(l < x ↔ val K l n < val K x n)
  | l,[],n,_,_,_,e=>by
    obtain rfl:n = 0:=by simpa using e.symm
    rw [val_zero,val_zero]; simp
  | [],c :: x,n,_,hx,nx,e=>by
    rw [val_nil]
    have:=val_pos hK n hx nx (List.cons_ne_nil _ _) (Nat.le_of_eq e)
    simp [this]
  | d :: l,c :: x,0,_,_,_,e=>by simp at e
  | d :: l,c :: x,n + 1,hl,hx,nx,e=>by
    have ih:=low_val hK n hl.tail hx.tail nx.tail (by simpa using e)
    rw [List.cons_lt_cons_iff,val_cons,val_cons,lt_parts (val_lt hK n hl.tail) (val_lt hK n hx.tail),(sub97 hl.head.1 hx.head.1).1,(sub97 hl.head.1 hx.head.1).2,ih]
theorem high_val {K:Nat} (hK:0 < K):∀ {x h:List Nat} (n:Nat),Ls K h→Ls K x→Na h→x.length = n→(x < h ↔ val K x n < val K h n ∨ (val K x n = val K h n∧n < h.length))
  | [],h,n,_,_,_,e=>by
    obtain rfl:n = 0:=by simpa using e.symm
    rw [val_zero,val_zero]
    cases h <;> simp
  | c :: x,[],n,_,_,_,_=>by rw [val_nil]; simp
  | c :: x,d :: h,0,_,_,_,e=>by simp at e
  | c :: x,d :: h,n + 1,hh,hx,nh,e=>by
    have ih:=high_val hK n hh.tail hx.tail nh.tail (by simpa using e)
    have v1:=val_lt hK n hx.tail
    have v2:=val_lt hK n hh.tail
    rw [List.cons_lt_cons_iff,val_cons,val_cons,lt_parts v1 v2,eq_parts v1 v2,(sub97 hx.head.1 hh.head.1).1,(sub97 hx.head.1 hh.head.1).2,ih,List.length_cons,Nat.add_lt_add_iff_right]
    constructor
    · rintro (g | ⟨g,g' | g'⟩)
      · exact .inl (.inl g)
      · exact .inl (.inr ⟨g,g'⟩)
      · exact .inr ⟨⟨g,g'.1⟩,g'.2⟩
    · rintro ((g | g) | ⟨⟨g,g'⟩,g2⟩)
      · exact .inl g
      · exact .inr ⟨g.1,.inl g.2⟩
      · exact .inr ⟨g,.inr ⟨g',g2⟩⟩
def fig (m:List Nat) (i:Nat):Nat:=match m[i]? with | some c=>c - 97 | none=>0
theorem val_succ (K:Nat):∀ (m:List Nat) (n:Nat),val K m (n + 1) = val K m n * K + fig m n
  | [],n=>by rw [val_nil,val_nil]; simp [fig]
  | c :: m,0=>by rw [val_cons,val_zero,val_zero]; simp [fig]
  | c :: m,n + 1=>by
    have ih:=val_succ K m n
    rw [val_cons,ih,val_cons,Nat.pow_succ,Nat.add_mul,Nat.mul_assoc,← Nat.add_assoc]
    simp [fig]
def low (K r:Nat):Nat→List Nat
  | 0=>[]
  | n + 1=>(97 + r / K ^ n % K) :: low K r n
theorem low_length (K r:Nat):∀ n,(low K r n).length = n
  | 0=>rfl
  | n + 1=>by rw [low,List.length_cons,low_length K r n]
theorem low_ls {K:Nat} (hK:0 < K) (r:Nat):∀ n,Ls K (low K r n)
  | 0=>Ls.nil K
  | n + 1=>fun c hc=>by
    rcases List.mem_cons.mp hc with rfl | hc
    · have:=Nat.mod_lt (r / K ^ n) hK; omega
    · exact low_ls hK r n c hc
theorem low_val_eq {K:Nat} (hK:0 < K) (r:Nat):∀ n,val K (low K r n) n = r % K ^ n
  | 0=>by rw [val_zero,Nat.pow_zero,Nat.mod_one]
  | n + 1=>by
    rw [low,val_cons,low_val_eq hK r n,Nat.pow_succ,Nat.mod_mul,Nat.add_comm,Nat.mul_comm,Nat.add_sub_cancel_left]
def cutA (m:List Nat):List Nat:=(m.reverse.dropWhile (fun c=>[97].contains c)).reverse
theorem cutA_snoc_a (m:List Nat):cutA (m ++ [97]) = cutA m:=by
  unfold cutA
  rw [List.reverse_append]
  show (List.dropWhile _ (97 :: m.reverse)).reverse = _
  rw [List.dropWhile_cons_of_pos (by decide)]
theorem cutA_na {m:List Nat} (h:Na m):cutA m = m:=by
  unfold cutA
  cases e:m.reverse with
  | nil=>rw [List.dropWhile_nil,← e,List.reverse_reverse]
  | cons c r=>
    have hc:c ≠ 97:=h c (by rw [List.getLast?_eq_head?_reverse,e]; rfl)
    rw [List.dropWhile_cons_of_neg (by simp [hc]),← e,List.reverse_reverse]
theorem cutA_spec (m:List Nat):∃ k,m = cutA m ++ List.replicate k 97∧Na (cutA m):=by
  obtain ⟨n,hn⟩:∃ n,m.length = n:=⟨_,rfl⟩
  induction n generalizing m with
  | zero=>
    obtain rfl:m = []:=List.length_eq_zero_iff.mp hn
    exact ⟨0,rfl,Na.nil⟩
  | succ n ih=>
    by_cases h:Na m
    · exact ⟨0,by rw [cutA_na h]; simp,by rw [cutA_na h]; exact h⟩
    · obtain ⟨c,hc,e⟩:∃ c,m.getLast? = some c∧c = 97:=by
        apply Classical.byContradiction
        intro q
        exact h fun c hc e=>q ⟨c,hc,e⟩
      subst e
      obtain ⟨r,rfl⟩:=List.getLast?_eq_some_iff.mp hc
      obtain ⟨k,e1,e2⟩:=ih r (by simpa using hn)
      rw [cutA_snoc_a]
      refine ⟨k + 1,?_,e2⟩
      rw [List.replicate_succ',← List.append_assoc,← e1]
theorem val_app_a (K:Nat):∀ (m:List Nat) (k n:Nat),val K (m ++ List.replicate k 97) n = val K m n
  | m,k,0=>by rw [val_zero,val_zero]
  | [],0,n + 1=>rfl
  | [],k + 1,n + 1=>by
    rw [List.nil_append,List.replicate_succ,val_cons]
    have:=val_app_a K [] k n
    rw [List.nil_append] at this
    rw [this,val_nil,val_nil]; simp
  | c :: m,k,n + 1=>by rw [List.cons_append,val_cons,val_cons,val_app_a K m k n]
theorem cutA_val (K:Nat) (m:List Nat) (n:Nat):val K (cutA m) n = val K m n:=by
  obtain ⟨k,e,_⟩:=cutA_spec m
  have h:val K m n = val K (cutA m ++ List.replicate k 97) n:=by rw [← e]
  rw [h,val_app_a]
theorem cutA_na' (m:List Nat):Na (cutA m):=by
  obtain ⟨k,_,h⟩:=cutA_spec m
  exact h
theorem cutA_len (m:List Nat):(cutA m).length ≤ m.length:=by
  obtain ⟨k,e,_⟩:=cutA_spec m
  have h:m.length = (cutA m ++ List.replicate k 97).length:=by rw [← e]
  rw [h,List.length_append]; omega
theorem cutA_sub (m:List Nat):∀ c ∈ cutA m,c ∈ m:=fun c hc=>by
  obtain ⟨k,e,_⟩:=cutA_spec m
  rw [e]; exact List.mem_append_left _ hc
def mk (K r n:Nat):List Nat:=cutA (low K r n)
theorem mk_val {K:Nat} (hK:0 < K) {r n:Nat} (h:r < K ^ n):val K (mk K r n) n = r:=by
  rw [mk,cutA_val,low_val_eq hK,Nat.mod_eq_of_lt h]
theorem mk_len (K r n:Nat):(mk K r n).length ≤ n:=by
  have:=cutA_len (low K r n); rw [low_length] at this; exact this
theorem mk_ls {K:Nat} (hK:0 < K) (r n:Nat):Ls K (mk K r n):=(low_ls hK r n).sub (cutA_sub _)
theorem mk_na (K r n:Nat):Na (mk K r n):=cutA_na' _
theorem mk_ne {K:Nat} (hK:0 < K) {r n:Nat} (h0:0 < r) (h:r < K ^ n):mk K r n ≠ []:=fun e=>by
  have:=mk_val hK h
  rw [e,val_nil] at this; omega
theorem mk_mark {K:Nat} (hK:0 < K) {r n:Nat} (h0:0 < r) (h:r < K ^ n):Mark K (mk K r n):=⟨mk_ls hK r n,mk_na K r n,mk_ne hK h0 h⟩
end MM
namespace MM
def endsL (K h j:Nat):List Nat:=((List.range (K - 1)).filter (fun i=>decide (i % h = j))).map (98 + ·)
def endsFrom (K h j n:Nat):List Nat:=((List.range' (n - 1) (K - n)).filter (fun i=>decide (i % h = j))).map (98 + ·)
theorem endsFrom_one (K h j:Nat):endsFrom K h j 1 = endsL K h j:=by
  unfold endsFrom endsL
  rw [List.range_eq_range']
theorem endsFrom_stop {K h j n:Nat} (hn:K ≤ n):endsFrom K h j n = []:=by
  unfold endsFrom
  have:K - n = 0:=by omega
  rw [this]; rfl
theorem endsFrom_skip {K h j n:Nat} (h1:1 ≤ n) (hK:n < K) (hne:(n - 1) % h ≠ j):endsFrom K h j n = endsFrom K h j (n + 1):=by
  unfold endsFrom
  obtain ⟨d,hd⟩:∃ d,K - n = d + 1:=⟨K - n - 1,by omega⟩
  have e2:K - (n + 1) = d:=by omega
  have e3:n + 1 - 1 = n - 1 + 1:=by omega
  rw [hd,e2,e3,List.range'_succ,List.filter_cons]
  simp [hne]
theorem endsFrom_take {K h j n:Nat} (h1:1 ≤ n) (hK:n < K) (he:(n - 1) % h = j):endsFrom K h j n = (97 + n) :: endsFrom K h j (n + 1):=by
  unfold endsFrom
  obtain ⟨d,hd⟩:∃ d,K - n = d + 1:=⟨K - n - 1,by omega⟩
  have e2:K - (n + 1) = d:=by omega
  have e3:n + 1 - 1 = n - 1 + 1:=by omega
  rw [hd,e2,e3,List.range'_succ,List.filter_cons]
  simp [he]; omega
theorem endsFrom_skips {K h j:Nat}:∀ (m n:Nat),1 ≤ n→(∀ i,i < m→(n - 1 + i) % h ≠ j)→endsFrom K h j n = endsFrom K h j (n + m)
  | 0,n,_,_=>rfl
  | m + 1,n,h1,hne=>by
    by_cases hK:n < K
    · rw [endsFrom_skip h1 hK (by have:=hne 0 (by omega); simpa using this),endsFrom_skips m (n + 1) (by omega) (fun i hi=>by have:=hne (i + 1) (by omega); rwa [show n - 1 + (i + 1) = n + 1 - 1 + i by omega] at this)]
      congr 1; omega
    · rw [endsFrom_stop (by omega),endsFrom_stop (by omega)]
theorem mod_add_ne {a h i:Nat} (hi:0 < i) (hh:i < h):(a + i) % h ≠ a % h:=by
  intro e
  have h0:0 < h:=by omega
  have e1:=Nat.div_add_mod a h
  have e2:=Nat.div_add_mod (a + i) h
  rw [e] at e2
  have e3:h * ((a + i) / h) = h * (a / h) + i:=by omega
  rcases Nat.lt_or_ge (a / h) ((a + i) / h) with hl | hl
  · have:h * (a / h + 1) ≤ h * ((a + i) / h):=Nat.mul_le_mul_left h hl
    rw [Nat.mul_add] at this; omega
  · have:h * ((a + i) / h) ≤ h * (a / h):=Nat.mul_le_mul_left h hl
    omega
theorem endsFrom_step {K h j n:Nat} (h0:0 < h) (h1:1 ≤ n) (hK:n < K) (he:(n - 1) % h = j):endsFrom K h j n = (97 + n) :: endsFrom K h j (n + h):=by
  rw [endsFrom_take h1 hK he,endsFrom_skips (h - 1) (n + 1) (by omega) (fun i hi=>by
    have:=mod_add_ne (a:=n - 1) (h:=h) (i:=i + 1) (by omega) (by omega)
    rw [he] at this
    rwa [show n + 1 - 1 + i = n - 1 + (i + 1) by omega])]
  congr 2; omega
theorem endsFrom_start {K h j:Nat} (hj:j < h):endsFrom K h j (1 + j) = endsL K h j:=by
  rw [← endsFrom_one,Nat.add_comm 1 j,Nat.add_comm j 1]
  exact (endsFrom_skips j 1 (by omega) (fun i hi=>by
    show (0 + i) % h ≠ j
    rw [Nat.zero_add,Nat.mod_eq_of_lt (by omega)]; omega)).symm
theorem endsL_ne {K h j:Nat} (hj:j < h) (hh:h + 1 ≤ K):endsL K h j ≠ []:=by
  rw [← endsFrom_start hj,endsFrom_step (by omega) (by omega) (by omega) (by rw [Nat.add_comm,Nat.add_sub_cancel]; exact Nat.mod_eq_of_lt hj)]
  exact List.cons_ne_nil _ _
theorem endsL_mem {K h j c:Nat}:c ∈ endsL K h j ↔ ∃ i,i < K - 1∧i % h = j∧c = 98 + i:=by
  unfold endsL
  simp only [List.mem_map,List.mem_filter,List.mem_range,decide_eq_true_eq]
  constructor
  · rintro ⟨a,⟨h1,h2⟩,h3⟩; exact ⟨a,h1,h2,h3.symm⟩
  · rintro ⟨a,h1,h2,h3⟩; exact ⟨a,⟨h1,h2⟩,h3.symm⟩
end MM
namespace MM
structure Ends (L:Nat) (es:List Nat):Prop where
  up:es.Pairwise (· < ·)
  lo:∀ e ∈ es,98 ≤ e
  hi:∀ e ∈ es,e < 97 + L
  ne:es ≠ []
def cnt (es:List Nat) (x:Nat):Nat:=(es.filter (fun e=>decide (e < x))).length
def ob (L:Nat) (es:List Nat) (N:Nat):Nat:=N / L * es.length + cnt es (97 + N % L)
def ow (L:Nat) (es:List Nat) (w:Nat):Bool:=decide (97 + w % L ∈ es)
def nth (L:Nat) (es:List Nat) (p:Nat):Nat:=p / es.length * L + (es.getD (p % es.length) 0 - 97)
theorem cnt_succ {es:List Nat} (h:es.Pairwise (· < ·)) (x:Nat):cnt es (x + 1) = cnt es x + (if x ∈ es then 1 else 0):=by
  induction es with
  | nil=>rfl
  | cons e r ih=>
    obtain ⟨h1,h2⟩:=List.pairwise_cons.mp h
    have ih:=ih h2
    unfold cnt at ih ⊢
    rw [List.filter_cons,List.filter_cons]
    by_cases a:e < x
    · have m : x ∈ e :: r ↔ x ∈ r := by rw [List.mem_cons]; constructor
                                        · rintro (rfl | z)
                                          · omega
                                          · exact z
                                        · exact .inr
      rw [if_pos (by simp; omega),if_pos (by simpa using a),List.length_cons,List.length_cons,ih]
      simp only [m]; omega
    · by_cases b:e = x
      · subst b
        rw [if_pos (by simp),if_neg (by simp)]
        have no:e ∉ r:=fun z=>by have:=h1 e z; omega
        rw [if_neg no] at ih
        rw [List.length_cons,ih,if_pos List.mem_cons_self]
      · have no:x ∉ r:=fun z=>by have:=h1 x z; omega
        rw [if_neg (by simp; omega),if_neg (by simpa using a),ih,if_neg no,if_neg (by rw [List.mem_cons]; rintro (z | z); omega; exact no z)]
theorem cnt_low {es:List Nat} (h:∀ e ∈ es,98 ≤ e):cnt es 97 = 0:=by
  unfold cnt
  rw [List.length_eq_zero_iff,List.filter_eq_nil_iff]
  intro e he; have:=h e he; simp only [decide_eq_true_eq]; omega
theorem cnt_all {es:List Nat} {x:Nat} (h:∀ e ∈ es,e < x):cnt es x = es.length:=by
  unfold cnt
  rw [List.filter_eq_self.mpr (fun e he=>by simpa using h e he)]
theorem ob_succ {L:Nat} {es:List Nat} (hL:0 < L) (E:Ends L es) (w:Nat):ob L es (w + 1) = ob L es w + (if ow L es w = true then 1 else 0):=by
  unfold ob ow
  have hm:=Nat.mod_lt w hL
  simp only [decide_eq_true_eq]
  by_cases h:w % L + 1 < L
  · have e1:(w + 1) / L = w / L:=by rw [Nat.add_div hL]; have:1 % L = 1:=Nat.mod_eq_of_lt (by omega); rw [this,Nat.div_eq_of_lt (show 1 < L by omega),if_neg (by omega)]; rfl
    have e2:(w + 1) % L = w % L + 1:=by rw [Nat.add_mod,Nat.mod_eq_of_lt (show 1 < L by omega)]; exact Nat.mod_eq_of_lt h
    rw [e1,e2,show 97 + (w % L + 1) = 97 + w % L + 1 by omega,cnt_succ E.up,Nat.add_assoc]
  · have hl:w % L + 1 = L:=by omega
    have hd:=Nat.div_add_mod w L
    have e0:w + 1 = L * (w / L + 1):=by rw [Nat.mul_add]; omega
    have e1:(w + 1) / L = w / L + 1:=by rw [e0,Nat.mul_div_cancel_left _ hL]
    have e2:(w + 1) % L = 0:=by rw [e0,Nat.mul_mod_right]
    have e3:=cnt_succ E.up (97 + w % L)
    rw [show 97 + w % L + 1 = 97 + L by omega,cnt_all E.hi] at e3
    rw [e1,e2,Nat.add_zero,cnt_low E.lo,Nat.add_mul,Nat.one_mul,e3]; omega
theorem cnt_at {es:List Nat} (h:es.Pairwise (· < ·)):∀ {r:Nat} {x:Nat},es[r]? = some x→cnt es x = r:=by
  induction es with
  | nil=>intro r x e; simp at e
  | cons e t ih=>
    intro r x hx
    obtain ⟨h1,h2⟩:=List.pairwise_cons.mp h
    cases r with
    | zero=>
      obtain rfl:e = x:=by simpa using hx
      unfold cnt
      rw [List.length_eq_zero_iff,List.filter_eq_nil_iff]
      intro y hy
      rcases List.mem_cons.mp hy with rfl | hy
      · simp
      · have:=h1 y hy; simp; omega
    | succ r=>
      have hx':t[r]? = some x:=by simpa using hx
      have:=h1 x (List.mem_of_getElem? hx')
      have i2:=ih h2 hx'
      unfold cnt at i2 ⊢
      rw [List.filter_cons_of_pos (by simpa using this),List.length_cons,i2]
theorem nth_ob {L:Nat} {es:List Nat} (hL:0 < L) (E:Ends L es) {w:Nat} (h:ow L es w = true):nth L es (ob L es w) = w:=by
  have hm:97 + w % L ∈ es:=of_decide_eq_true h
  obtain ⟨r,hr,e⟩:=List.getElem_of_mem hm
  have hx:es[r]? = some (97 + w % L):=by rw [List.getElem?_eq_getElem hr,e]
  have c:=cnt_at E.up hx
  unfold nth ob
  rw [c]
  have e1:(w / L * es.length + r) / es.length = w / L:=by rw [Nat.mul_comm,Nat.mul_add_div (by omega),Nat.div_eq_of_lt hr]; rfl
  have e2:(w / L * es.length + r) % es.length = r:=by rw [Nat.mul_comm,Nat.mul_add_mod,Nat.mod_eq_of_lt hr]
  rw [e1,e2,List.getD_eq_getElem?_getD,hx]
  have:=Nat.div_add_mod w L
  rw [Nat.mul_comm] at this
  simp only [Option.getD_some]; omega
theorem ob_mono {L:Nat} {es:List Nat} (hL:0 < L) (E:Ends L es) {a:Nat}:∀ {b:Nat},a ≤ b→ob L es a ≤ ob L es b
  | 0, h => by obtain rfl : a = 0 := by omega
               exact Nat.le_refl _
  | b + 1,h=>by
    by_cases e:a = b + 1
    · rw [e]; exact Nat.le_refl _
    · have:=ob_mono hL E (a:=a) (b:=b) (by omega)
      rw [ob_succ hL E]; omega
theorem seg {L:Nat} {es:List Nat} (hL:0 < L) (E:Ends L es) {a:Nat}:∀ {b:Nat},a ≤ b→(List.range' a (b - a)).filter (ow L es) = (List.range' (ob L es a) (ob L es b - ob L es a)).map (nth L es)
  | 0,h=>by
    obtain rfl:a = 0:=by omega
    simp
  | b + 1,h=>by
    by_cases e:a = b + 1
    · subst e; simp
    · have hab:a ≤ b:=by omega
      have ih:=seg hL E hab
      have hmon:=ob_mono hL E hab
      rw [show b + 1 - a = (b - a) + 1 by omega,List.range'_concat,List.filter_append,ih,Nat.one_mul,show a + (b - a) = b by omega]
      have os:=ob_succ hL E b
      by_cases hb:ow L es b = true
      · rw [if_pos hb] at os
        rw [List.filter_cons_of_pos hb,List.filter_nil,os,show ob L es b + 1 - ob L es a = (ob L es b - ob L es a) + 1 by omega,List.range'_concat,List.map_append,Nat.one_mul,show ob L es a + (ob L es b - ob L es a) = ob L es b by omega]
        simp only [List.map_cons,List.map_nil,nth_ob hL E hb]
      · rw [if_neg hb] at os
        rw [List.filter_cons_of_neg hb,List.filter_nil,List.append_nil,os,Nat.add_zero]
theorem ends_ok {K h j:Nat} (hj:j < h) (hh:h + 1 ≤ K):Ends K (endsL K h j) where
  up:=by
    unfold endsL
    rw [List.pairwise_map]
    refine List.Pairwise.imp ?_ ((List.pairwise_lt_range (n:=K - 1)).filter _)
    intro a b hab; omega
  lo:=fun e he=>by obtain ⟨i,_,_,rfl⟩:=endsL_mem.mp he; omega
  hi:=fun e he=>by obtain ⟨i,hi,_,rfl⟩:=endsL_mem.mp he; omega
  ne:=endsL_ne hj hh
theorem low_snoc {L:Nat} (hL:0 < L) {i:Nat} (hi:i < L) (q:Nat):∀ n,low L (q * L + i) (n + 1) = low L q n ++ [97 + i]
  | 0=>by
    show [97 + (q * L + i) / L ^ 0 % L] = [97 + i]
    rw [Nat.pow_zero,Nat.div_one,Nat.mul_comm,Nat.mul_add_mod,Nat.mod_eq_of_lt hi]
  | n + 1=>by
    rw [low,low_snoc hL hi q n,low,List.cons_append]
    congr 2
    rw [Nat.pow_succ,Nat.mul_comm (L ^ n),← Nat.div_div_eq_div_mul]
    congr 1
    have:(q * L + i) / L = q:=by rw [Nat.mul_comm,Nat.mul_add_div hL,Nat.div_eq_of_lt hi]; rfl
    rw [this]
theorem low_last {L w n:Nat} (hL:0 < L):(low L w (n + 1)).getLast? = some (97 + w % L):=by
  have hd:=Nat.div_add_mod w L
  have e:w = w / L * L + w % L:=by rw [Nat.mul_comm]; omega
  rw [e,low_snoc hL (Nat.mod_lt w hL)]
  simp [Nat.mod_eq_of_lt (Nat.mod_lt w hL)]
theorem mk_low {L w n:Nat} (hL:0 < L) (h:w % L ≠ 0):mk L w (n + 1) = low L w (n + 1):=by
  unfold mk
  refine cutA_na fun c hc=>?_
  rw [low_last hL] at hc
  have:=Option.some.inj hc; omega
end MM
namespace MM
theorem nth_mod {L:Nat} {es:List Nat} (E:Ends L es) (p:Nat):nth L es p % L ≠ 0:=by
  have hp:0 < es.length:=List.length_pos_iff.mpr E.ne
  have hm:=Nat.mod_lt p hp
  have hx:es[p % es.length]? = some es[p % es.length]:=List.getElem?_eq_getElem hm
  have h1:=E.lo _ (List.mem_of_getElem? hx)
  have h2:=E.hi _ (List.mem_of_getElem? hx)
  unfold nth
  rw [List.getD_eq_getElem?_getD,hx,Nat.mul_comm,Nat.mul_add_mod,Option.getD_some,Nat.mod_eq_of_lt (by omega)]
  omega
end MM
namespace MM
theorem ob_nth {L:Nat} {es:List Nat} (hL:0 < L) (E:Ends L es) (p:Nat):ob L es (nth L es p) = p∧ow L es (nth L es p) = true:=by
  have hp:0 < es.length:=List.length_pos_iff.mpr E.ne
  have hm:=Nat.mod_lt p hp
  have hx:es[p % es.length]? = some es[p % es.length]:=List.getElem?_eq_getElem hm
  have hmem:=List.mem_of_getElem? hx
  have h1:=E.lo _ hmem
  have h2:=E.hi _ hmem
  have hc:=cnt_at E.up hx
  generalize es[p % es.length] = e at *
  have e0:nth L es p = p / es.length * L + (e - 97):=by unfold nth; rw [List.getD_eq_getElem?_getD,hx]; rfl
  have e1:nth L es p / L = p / es.length:=by rw [e0,Nat.mul_comm,Nat.mul_add_div hL,Nat.div_eq_of_lt (show e - 97 < L by omega)]; rfl
  have e2:nth L es p % L = e - 97:=by rw [e0,Nat.mul_comm,Nat.mul_add_mod,Nat.mod_eq_of_lt (by omega)]
  constructor
  · unfold ob
    rw [e1,e2,show 97 + (e - 97) = e by omega,hc,Nat.mul_comm]
    exact Nat.div_add_mod p es.length
  · unfold ow
    rw [e2,show 97 + (e - 97) = e by omega]
    exact decide_eq_true hmem
theorem nth_in {L:Nat} {es:List Nat} (hL:0 < L) (E:Ends L es) {A B p:Nat} (h1:ob L es A ≤ p) (h2:p < ob L es B):A ≤ nth L es p∧nth L es p < B:=by
  obtain ⟨o1,o2⟩:=ob_nth hL E p
  constructor
  · by_cases z:A ≤ nth L es p
    · exact z
    · have:=ob_mono hL E (show nth L es p + 1 ≤ A by omega)
      rw [ob_succ hL E,if_pos o2,o1] at this
      omega
  · by_cases z:nth L es p < B
    · exact z
    · have:=ob_mono hL E (show B ≤ nth L es p by omega)
      omega
end MM
set_option maxHeartbeats 1000000
namespace L2
open PySem PySem.Spec PyProof.Rows
end L2
set_option maxHeartbeats 1000000
namespace L2
section
open PySem PySem.Spec PyProof.Rows Builtin Builtin.ObjectAttr Builtin.Getset_descriptor
end
open PySem PySem.Spec PyProof.Rows
end L2
set_option maxHeartbeats 1000000
namespace L2
open PySem PySem.Spec PyProof.Rows
section
variable {κ:Type} [DecidableEq κ]
def valV (kvs:List (κ × V)) (k:κ):Option V:=(kvs.find? fun kv=>decide (kv.1 = k)).map (·.2)
def putK (kvs:List (κ × V)) (k:κ) (v:V):List (κ × V):=
  if (kvs.any fun kv=>decide (kv.1 = k)) = true then kvs.map (fun kv=>if kv.1 = k then (kv.1,v) else kv) else kvs ++ [(k,v)]
theorem valV_nil {k:κ}:valV ([]:List (κ × V)) k = none:=rfl
theorem valV_pos {p:κ × V} {r:List (κ × V)} {k:κ} (e:p.1 = k):valV (p :: r) k = some p.2:=by simp [valV,List.find?_cons,e]
theorem valV_neg {p:κ × V} {r:List (κ × V)} {k:κ} (e:¬ p.1 = k):valV (p :: r) k = valV r k:=by simp [valV,List.find?_cons,e]
theorem valV_any (k:κ):∀ kvs:List (κ × V),(kvs.any fun kv=>decide (kv.1 = k)) = (valV kvs k).isSome
  | []=>rfl
  | p :: r=>by
    rw [List.any_cons]
    by_cases e:p.1 = k
    · simp only [valV_pos e,decide_eq_true e,Bool.true_or,Option.isSome_some]
    · rw [valV_neg e,decide_eq_false e,Bool.false_or]; exact valV_any k r
theorem length_putK (kvs:List (κ × V)) (k:κ) (v:V):(putK kvs k v).length ≤ kvs.length + 1:=by
  unfold putK
  split
  · rw [List.length_map]; omega
  · rw [List.length_append,List.length_cons,List.length_nil]; omega
theorem putK_new {kvs:List (κ × V)} {k:κ} (v:V) (h:valV kvs k = none):putK kvs k v = kvs ++ [(k,v)]:=by
  unfold putK
  rw [valV_any,h]
  exact if_neg (by decide)
theorem RelO.isSome_eq {o:Option V} {u:Option Value} (r:RelO o u):o.isSome = u.isSome:=by
  cases o with
  | none=>cases u with
    | none=>rfl
    | some _=>exact (show False from r).elim
  | some _=>cases u with
    | none=>exact (show False from r).elim
    | some _=>rfl
theorem KV.val {kvs:List (κ × V)} {vs:List (κ × Value)} (r:KV kvs vs) (k:κ):RelO (valV kvs k) (valueAt vs k):=by
  unfold KV at r
  induction r with
  | nil=>exact True.intro
  | @cons p q ps qs h t ih=>
    obtain ⟨h1,h2⟩:=h
    by_cases e:p.1 = k
    · have e':q.1 = k:=h1.symm.trans e
      have b:valueAt (q :: qs) k = some q.2:=by simp [valueAt,List.find?_cons,e']
      rw [valV_pos e,b]; exact h2
    · have e':¬ q.1 = k:=fun z=>e (h1.trans z)
      have b:valueAt (q :: qs) k = valueAt qs k:=by simp [valueAt,List.find?_cons,e']
      rw [valV_neg e,b]; exact ih
theorem KV.any {kvs:List (κ × V)} {vs:List (κ × Value)} (r:KV kvs vs) (k:κ):(kvs.any fun kv=>decide (kv.1 = k)) = vs.any fun kv=>decide (kv.1 = k):=by
  unfold KV at r
  induction r with
  | nil=>rfl
  | cons h t ih=>rw [List.any_cons,List.any_cons,ih,h.1]
theorem KV.repl {kvs:List (κ × V)} {vs:List (κ × Value)} (r:KV kvs vs) (k:κ) {y:V} {u:Value} (ry:RelV y u) :
    KV (kvs.map fun kv=>if kv.1 = k then (kv.1,y) else kv) (vs.map fun kv=>if kv.1 = k then (kv.1,u) else kv):=by
  unfold KV at r ⊢
  induction r with
  | nil=>exact .nil
  | @cons p q ps qs h t ih=>
    rw [List.map_cons,List.map_cons]
    refine .cons ?_ ih
    obtain ⟨h1,h2⟩:=h
    by_cases e:p.1 = k
    · rw [if_pos e,if_pos (h1.symm.trans e)]; exact ⟨h1,ry⟩
    · rw [if_neg e,if_neg (fun z=>e (h1.trans z))]; exact ⟨h1,h2⟩
theorem KV.put {kvs:List (κ × V)} {vs:List (κ × Value)} (r:KV kvs vs) (k:κ) {y:V} {u:Value} (ry:RelV y u):KV (putK kvs k y) (stored vs k u):=by
  unfold putK stored
  rw [r.any k]
  by_cases e:(vs.any fun kv=>decide (kv.1 = k)) = true
  · rw [if_pos e,if_pos e]; exact r.repl k ry
  · rw [if_neg e,if_neg e]; exact Paired.snoc r ⟨rfl,ry⟩
theorem KV.length {kvs:List (κ × V)} {vs:List (κ × Value)} (r:KV kvs vs):kvs.length = vs.length:=Paired.length r
end
theorem kV_is {P:Program} {w:World} {k:Key} {u:Value} (r:RelV (kV k) u):(mixKind P w).is k u = true:=by
  cases k with
  | inl i=>obtain ⟨t,e⟩:=(show ∃ t,u = Value.int i t from r); subst e; exact mixKind_int P w i t
  | inr x=>obtain ⟨t,e⟩:=(show ∃ t,u = Value.str x t from r); subst e; exact mixKind_str P w x t
  | non=>obtain rfl:u = Value.none:=r; rfl
theorem items_are {P:Program} {w:World}:∀ {ks:List Key} {us:List Value},Vals (ks.map kV) us→ItemsAre (mixKind P w) ks us
  | [],_,r=>by rw [List.map_nil] at r; cases r; exact .nil
  | k :: ks,_,r=>by
    rw [List.map_cons] at r
    cases r with
    | cons h t=>exact .cons (kV_is h) (items_are t)
abbrev KT (H:Hp):List (List Key × V)→List (List Key × Addr × Value)→Prop:=Paired fun p q=>p.1 = q.1∧H q.2.1 = some (.tup (p.1.map kV))∧RelV p.2 q.2.2
theorem KT.val {H:Hp} {kvs:List (List Key × V)} {xs:List (List Key × Addr × Value)} (r:KT H kvs xs) (k:List Key):RelO (valV kvs k) ((atKey xs k).map (·.2)):=by
  induction r with
  | nil=>exact True.intro
  | @cons p q ps qs h t ih=>
    obtain ⟨h1,_,h2⟩:=h
    by_cases e:p.1 = k
    · have e':q.1 = k:=h1.symm.trans e
      have b:atKey (q :: qs) k = some q.2:=by simp [atKey,List.find?_cons,e']
      rw [valV_pos e,b]; exact h2
    · have e':¬ q.1 = k:=fun z=>e (h1.trans z)
      have b:atKey (q :: qs) k = atKey qs k:=by simp [atKey,List.find?_cons,e']
      rw [valV_neg e,b]; exact ih
theorem KT.repl {H:Hp} {kvs:List (List Key × V)} {xs:List (List Key × Addr × Value)} (r:KT H kvs xs) (k:List Key) {y:V} {u:Value} (ry:RelV y u) :
    KT H (kvs.map fun kv=>if kv.1 = k then (kv.1,y) else kv) (xs.map (putAt k u)):=by
  induction r with
  | nil=>exact .nil
  | @cons p q ps qs h t ih=>
    rw [List.map_cons,List.map_cons]
    refine .cons ?_ ih
    obtain ⟨h1,h2,h3⟩:=h
    unfold putAt
    by_cases e:p.1 = k
    · rw [if_pos e,if_pos (h1.symm.trans e)]; exact ⟨h1,h2,ry⟩
    · rw [if_neg e,if_neg (fun z=>e (h1.trans z))]; exact ⟨h1,h2,h3⟩
theorem KT.put {H:Hp} {kvs:List (List Key × V)} {xs:List (List Key × Addr × Value)} (r:KT H kvs xs) (k:List Key) {b:Addr} {y:V} {u:Value} (hb:H b = some (.tup (k.map kV))) (ry:RelV y u) :
    KT H (putK kvs k y) (storedH xs k b u):=by
  have e:(kvs.any fun kv=>decide (kv.1 = k)) = (atKey xs k).isSome:=by
    rw [valV_any,(r.val k).isSome_eq,Option.isSome_map]
  unfold putK storedH
  rw [e]
  by_cases q:(atKey xs k).isSome = true
  · rw [if_pos q,if_pos q]; exact r.repl k ry
  · rw [if_neg q,if_neg q]; exact Paired.snoc r ⟨rfl,hb,ry⟩
theorem KT.keeps {H H':Hp} {kvs:List (List Key × V)} {xs:List (List Key × Addr × Value)} (r:KT H kvs xs) (ht:∀ b ys,H b = some (.tup ys)→H' b = some (.tup ys)):KT H' kvs xs:=
  Paired.mapP r fun _ _ z=>⟨z.1,ht _ _ z.2.1,z.2.2⟩
section
variable {P:Program} {w:World} {H:Hp} {h:Heap} {a:Addr}
theorem rd_of {u:HO} (ok:HOk P w H h) (e:Rd H a u):ObjOk P w H h a u:=e.ok ok
theorem dk_rd {kvs:List (Key × V)} (ok:HOk P w H h) (e:Rd H a (.dK kvs)):kvs.length ≤ sizeLine∧(a == sysModules) = false∧∃ vs,KV kvs vs∧h.DictOf (mixKind P w) a vs:=
  show ObjOk P w H h a (.dK kvs) from rd_of ok e
theorem dk_of {kvs:List (Key × V)} (ok:HOk P w H h) (e:H a = some (.dK kvs)):kvs.length ≤ sizeLine∧(a == sysModules) = false∧∃ vs,KV kvs vs∧h.DictOf (mixKind P w) a vs:=dk_rd ok (.inl e)
theorem key_of {ks:List Key} (ok:HOk P w H h) (e:H a = some (.tup (ks.map kV))):(tupleKind (mixKind P w)).is h ks a:=by
  obtain ⟨_,its,r,o,h1,h2,n,h3⟩:=(show ObjOk P w H h a (.tup (ks.map kV)) from ok a _ e)
  exact ⟨o,its.toArray,n,h1,h2,h3,by simpa using items_are r⟩
theorem dt_rd {kvs:List (List Key × V)} (ok:HOk P w H h) (e:Rd H a (.dT kvs)):kvs.length ≤ sizeLine∧(a == sysModules) = false∧
    ∃ xs,KT H kvs xs∧h.DictOfH (tupleKind (mixKind P w)) a xs:=by
  obtain ⟨z,y,xs,r,o,es,ep,h1,h2,h3,h4,h5⟩:=(show ObjOk P w H h a (.dT kvs) from rd_of ok e)
  refine ⟨z,y,xs,r,o,es,ep,h1,h2,h3,h4,fun x hx=>?_,h5⟩
  have all:∀ {l:List (List Key × V)} {m:List (List Key × Addr × Value)},KT H l m→∀ x ∈ m,(tupleKind (mixKind P w)).is h x.1 x.2.1:=by
    intro l m q
    induction q with
    | nil=>intro x hx; exact nomatch hx
    | @cons p q ps qs hq t ih=>
      intro x hx
      rcases List.mem_cons.mp hx with e | hx
      · subst e
        exact key_of ok (by rw [← hq.1]; exact hq.2.1)
      · exact ih x hx
  exact all r x hx
theorem dt_of {kvs:List (List Key × V)} (ok:HOk P w H h) (e:H a = some (.dT kvs)):kvs.length ≤ sizeLine∧(a == sysModules) = false∧
    ∃ xs,KT H kvs xs∧h.DictOfH (tupleKind (mixKind P w)) a xs:=dt_rd ok (.inl e)
end
def DGet (H:Hp) (a:Addr) (y:V) (r:Option V):Prop:=
  (∃ kvs k,Rd H a (.dK kvs)∧y = kV k∧r = valV kvs k) ∨ ∃ kvs k b,Rd H a (.dT kvs)∧y = .ref b∧H b = some (.tup (k.map kV))∧r = valV kvs k
def DPut (H:Hp) (a:Addr) (y v:V) (H':Hp):Prop:=
  (∃ kvs k,H a = some (.dK kvs)∧y = kV k∧kvs.length < sizeLine∧H' = upd H a (.dK (putK kvs k v))) ∨
  ∃ kvs k b,H a = some (.dT kvs)∧y = .ref b∧H b = some (.tup (k.map kV))∧kvs.length < sizeLine∧H' = upd H a (.dT (putK kvs k v))
theorem DGet.k {H:Hp} {a:Addr} {kvs:List (Key × V)} {k:Key} (e:H a = some (.dK kvs)):DGet H a (kV k) (valV kvs k):=.inl ⟨kvs,k,.inl e,rfl,rfl⟩
theorem DPut.k {H:Hp} {a:Addr} {kvs:List (Key × V)} {k:Key} {v:V} (e:H a = some (.dK kvs)) (hl:kvs.length < sizeLine):DPut H a (kV k) v (upd H a (.dK (putK kvs k v))):=.inl ⟨kvs,k,e,rfl,hl,rfl⟩
section
variable {X:Cx} {pins:List (Addr × Obj)} {σ:St} {H:Hp} {s:Shared} {a:Addr} {y v:V} {u r:Value} {o:Option V} {A:Around} {E:Value→Shared→Prop}
theorem Inv.big (I:Inv X pins σ H s):sysModules < s.heap.objs.size:=by
  have h:mainGlobals < s.heap.objs.size:=(I.mod.glob.keeps I.bk).lt
  exact Nat.lt_trans (by decide) h
theorem d_getItem {Q:Value→Shared→Prop} (hu:A.units + 1 < cLine) (I:Inv X pins σ H s) (g:DGet H a y (some v)) (ry:RelV y u) (h:∀ w' s',Inv X pins σ H s'→RelV v w'→Q w' s') :
    wpAny (model X.prog X.w) A (getItem (.ref a) u) Q E s:=by
  rcases g with ⟨kvs,k,e,ey,l⟩ | ⟨kvs,k,b,e,ey,eb,l⟩
  · subst ey
    obtain ⟨z,hd,vs,rel,dd⟩:=dk_rd I.hok e
    obtain ⟨w',hw,rw'⟩:=RelO.some_of (v:=v) (o:=valueAt vs k) (by rw [l]; exact rel.val k)
    exact wpAny_getItem_of (kV_is ry) dd.mapOf hw (h w' _ (I.tok _) rw')
  · subst ey
    cases (show u = Value.ref b from ry)
    obtain ⟨z,hd,xs,rel,dd⟩:=dt_rd I.hok e
    obtain ⟨w',hw,rw'⟩:=RelO.some_of (v:=v) (o:=(atKey xs k).map (·.2)) (by rw [l]; exact rel.val k)
    obtain ⟨p,hp,hp2⟩:=Option.map_eq_some_iff.mp hw
    refine wpAny_getItem_heap (tupleKind_room_in1 hu) (key_of I.hok eb) dd hp ?_
    rw [hp2]
    exact h w' _ (I.tok _) rw'
theorem d_notIn {Q:Value→Shared→Prop} (hu:A.units + 1 < cLine) (I:Inv X pins σ H s) (g:DGet H a y o) (ry:RelV y u) (h:∀ s',Inv X pins σ H s'→Q (.bool (!o.isSome)) s') :
    wpAny (model X.prog X.w) A (compareOp .NotIn u (.ref a)) Q E s:=by
  rcases g with ⟨kvs,k,e,ey,l⟩ | ⟨kvs,k,b,e,ey,eb,l⟩
  · subst ey
    obtain ⟨z,hd,vs,rel,dd⟩:=dk_rd I.hok e
    refine wpAny_notIn_of (kV_is ry) hd dd.mapOf ?_
    rw [← (rel.val k).isSome_eq,← l]
    exact h _ (I.tok _)
  · subst ey
    cases (show u = Value.ref b from ry)
    obtain ⟨z,hd,xs,rel,dd⟩:=dt_rd I.hok e
    refine wpAny_notIn_heap (tupleKind_room_in1 hu) (key_of I.hok eb) hd dd ?_
    have q:=(rel.val k).isSome_eq
    rw [Option.isSome_map] at q
    rw [← q,← l]
    exact h _ (I.tok _)
theorem d_write {h':Heap} {t':Nat} {ob:HO} (I:Inv X pins σ H s) (mu:Mut (H a)) (hs:Heap.SameBut a s.heap h') (he:∃ q,h'.get? a = some q) (new:ObjOk X.prog X.w (upd H a ob) h' a ob) :
    Inv X pins σ (upd H a ob) { s with heap:=h',toks:=t' }:=
  I.write (x:=a) (e:=a) mu (.inl rfl) (fun b q hb z=>(hs.2 b hb).trans z) he new
theorem dk_new {P:Program} {w:World} {H':Hp} {h':Heap} {kvs:List (Key × V)} {vs:List (Key × Value)} (z:kvs.length ≤ sizeLine) (hd:(a == sysModules) = false) (rel:KV kvs vs) (dd:h'.DictOf (mixKind P w) a vs) :
    ObjOk P w H' h' a (.dK kvs):=⟨z,hd,vs,rel,dd⟩
theorem d_setItem {H':Hp} {Q:Unit→Shared→Prop} (hu:A.units + 1 < cLine) (I:Inv X pins σ H s) (g:DPut H a y v H') (ry:RelV y u) (rv:RelV v r) (h:∀ s',Inv X pins σ H' s'→Q () s') :
    wpAny (model X.prog X.w) A (setItem (.ref a) u r) Q E s:=by
  rcases g with ⟨kvs,k,e,ey,l,eH⟩ | ⟨kvs,k,b,e,ey,eb,l,eH⟩
  · subst ey eH
    obtain ⟨z,hd,vs,rel,dd⟩:=dk_of I.hok e
    have hz:vs.length ≤ sizeLine:=by rw [← rel.length]; exact z
    have hl:(putK kvs k v).length ≤ sizeLine:=by have:=length_putK kvs k v; omega
    refine wpAny_setItem_pairs (hsz:=hz) (kV_is ry) dd fun h' dd' hs=>h _ ?_
    have he:∃ q,h'.get? a = some q:=let ⟨q,_,_,hq,_⟩:=dd'; ⟨q,hq⟩
    exact d_write I (by rw [e]; exact True.intro) hs he (dk_new hl hd (rel.put k rv) dd')
  · subst ey eH
    cases (show u = Value.ref b from ry)
    obtain ⟨z,hd,xs,rel,dd⟩:=dt_of I.hok e
    have hz:xs.length ≤ sizeLine:=by rw [← Paired.length rel]; exact z
    have hl:(putK kvs k v).length ≤ sizeLine:=by have:=length_putK kvs k v; omega
    refine wpAny_setItem_heap (hsz:=hz) (tupleKind_room_in1 hu) (key_of I.hok eb) dd fun h' dd' hs=>h _ ?_
    obtain ⟨q,es,ep,hq,h2,h3,h4,_,h5⟩:=dd'
    refine d_write I (by rw [e]; exact True.intro) hs ⟨q,hq⟩ ⟨hl,hd,_,(rel.put k eb rv).keeps fun c ys ec=>?_,q,es,ep,hq,h2,h3,h4,h5⟩
    rw [upd_ne (ne_of ec e (fun z=>nomatch z))]
    exact ec
end
def NoSl (i:Expr):Prop:=∀ ov iv,subscripted i false ov iv = operate [ov,iv] (getItem ov iv)
theorem subD_of {prog:Program} {w:World} {A:Around} {E:Value→Shared→Prop} {s:Shared} {env:Env} {value slice:Expr} {pos:Pos} {T id:String} {Q:Value→Shared→Prop}
    (hl:typeLookup (.type T) "__getitem__" = pure (some (.builtin id))) (hs:NoSl slice)
    (h:wpAny (model prog w) A (eval value env) (fun o s₁=>wpAny (model prog w) A (eval slice env) (fun i s₂=>s₂.TypeIs o T∧wpAny (model prog w) A (getItem o i) Q E s₂) E s₁) E s) :
    wpAny (model prog w) A (eval (.Subscript value slice pos) env) Q E s:=by
  refine Subscript_ (wpAny_mono h (fun o s₁ h₁=>wpAny_mono h₁ (fun i s₂ h₂=>?_) fun _ _ x=>x) fun _ _ x=>x)
  obtain ⟨hT,h₂⟩:=h₂
  unfold subscriptTail
  refine wpAny_bind ?_
  rw [getitemInPython_of_ne hT.not_modules]
  refine wpAny_bind (wpAny_specialOf hT hl ?_)
  have fin:wpAny (model prog w) A (subscripted slice false o i) (fun r s₃=>wpAny (model prog w) A (letTemporaryGo value o r >>= fun _=>pure r) Q E s₃) E s₂:=by
    rw [hs o i]
    exact wpAny_operating (wpAny_mono h₂ (fun r s₃ h₃=>wpAny_bind (wpAny_letTemporaryGo (wpAny_pure h₃))) fun _ _ x=>x)
  first
    | exact wpAny_pure (wpAny_bind fin)
    | exact wpAny_bind (wpAny_pure (wpAny_bind fin))
    | exact wpAny_bind fin
theorem dict_typeIs {X:Cx} {pins:List (Addr × Obj)} {σ:St} {H:Hp} {s:Shared} {a:Addr} {y:V} {o:Option V} (I:Inv X pins σ H s) (g:DGet H a y o):s.TypeIs (.ref a) "dict":=by
  rcases g with ⟨kvs,k,e,_,_⟩ | ⟨kvs,k,b,e,_,_,_⟩
  · obtain ⟨_,_,vs,_,dd⟩:=dk_rd I.hok e
    exact dd.typeIs
  · obtain ⟨_,_,xs,_,dd⟩:=dt_rd I.hok e
    exact dd.typeIs
def tDGet (td ty:TE):TE:=fun σ H Q=>td σ H fun x H1=>ty σ H1 fun y H2=>∃ a v,x = .ref a∧DGet H2 a y (some v)∧Q v H2
def sDPut (td ty tv:TE):TS:=fun D σ H=>tv σ H fun v H1=>td σ H1 fun x H2=>ty σ H2 fun y H3=>∃ a H4,x = .ref a∧DPut H3 a y v H4∧D.nx σ H4
section
variable {X:Cx} {o i e value:Expr} {pos pos' tpos:Pos} {td ty tv:TE}
theorem pe_dget (hu:X.A.units + 1 < cLine) (ho:PE X o td) (hi:PE X i ty) (hs:NoSl i):PE X (.Subscript o i pos) (tDGet td ty):=by
  intro pins s σ H Q I h
  refine subD_of PySem.F.slot_dict_getitem.lookup hs (thn (ho pins s σ H _ I h) fun u s1 ⟨x,H1,I1,rx,q1⟩=>thn (hi pins s1 σ H1 _ I1 q1) fun iv s2 ⟨y,H2,I2,ry,a,v,ex,g,q2⟩=>?_)
  subst ex
  obtain rfl:u = Value.ref a:=rx
  exact ⟨dict_typeIs I2 g,d_getItem hu I2 g ry fun w' s3 I3 rw'=>⟨v,H2,I3,rw',q2⟩⟩
theorem ps_dput (hu:X.A.units + 1 < cLine) (ho:PE X o td) (hi:PE X i ty) (hv:PE X value tv) (hs:swapsWith value (some (.Subscript o i pos')) pos.line X.env = pure false) :
    PS X (.Assign [.Subscript o i pos'] value pos) (sDPut td ty tv):=by
  intro pins s σ H D I h
  refine wpAny_Assign_Subscript (thn (hv pins s σ H _ I h) fun r s1 ⟨v,H1,I1,rv,q1⟩=>thn (ho pins s1 σ H1 _ I1 q1) fun u s2 ⟨x,H2,I2,rx,q2⟩=>thn (hi pins s2 σ H2 _ I2 q2) fun iv s3 ⟨y,H3,I3,ry,a,H4,ex,g,q3⟩=>?_) hs
  subst ex
  obtain rfl:u = Value.ref a:=rx
  exact d_setItem hu I3 g ry rv fun s4 I4=>⟨σ,H4,I4,q3⟩
end
theorem dk_empty {P:Program} {w:World} {H:Hp} (h:Heap) (hb:sysModules < h.objs.size):ObjOk P w H (h.push { cls:=.type "dict",data:=.dict #[] }) h.objs.size (.dK []):=
  ⟨Nat.zero_le _,beq_eq_false_iff_ne.mpr (Ne.symm (Nat.ne_of_lt hb)),[],.nil,Heap.DictOf.new h⟩
def tDNewK:TE:=fun _ H Q=>∀ p,H p = none→Q (.ref p) (upd H p (.dK []))
section
variable {X:Cx} {pos:Pos}
theorem pe_dnewK:PE X (.Dict [] [] pos) tDNewK:=fun pins s σ H Q I h=>
  wpAny_Dict_empty ⟨.ref s.heap.objs.size,_,I.laid (a:=s.heap.objs.size) (o:=.dK []) (t':=s.toks) (fun _ _ q=>Heap.get?_push_of_some _ q) (Nat.le_refl _) (dk_empty s.heap I.big),rfl,h _ (I.hok.fresh (Nat.le_refl _))⟩
end
def tPairs:List (TE × TE)→St→Hp→(List (V × V)→Hp→Prop)→Prop
  | [],_,H,Q=>Q [] H
  | (tk,tv) :: r,σ,H,Q=>tk σ H fun x H1=>tv σ H1 fun y H2=>tPairs r σ H2 fun ps H3=>Q ((x,y) :: ps) H3
abbrev VV:List (V × V)→List (Value × Value)→Prop:=Paired fun p q=>RelV p.1 q.1∧RelV p.2 q.2
def PPs (X:Cx) (pos:Pos) (keys:List (Option Expr)) (values:List Expr) (trs:List (TE × TE)):Prop:=
  ∀ (pins:List (Addr × Obj)) (s:Shared) (σ:St) (H:Hp) (Q:List (V × V)→Hp→Prop),Inv X pins σ H s→tPairs trs σ H Q→
    wpAny (model X.prog X.w) X.A (evalPairs (pairTrees keys values X.env pos)) (fun vs s'=>∃ ps H',Inv X pins σ H' s'∧VV ps vs∧Q ps H') X.xe s
theorem pps_nil {X:Cx} {pos:Pos}:PPs X pos [] [] []:=fun pins s σ H Q I h=>pairTrees_nil_walk ⟨[],H,I,.nil,h⟩
theorem pps_cons {X:Cx} {pos:Pos} {k v:Expr} {ks:List (Option Expr)} {vs:List Expr} {tk tv:TE} {trs:List (TE × TE)} (hk:PE X k tk) (hv:PE X v tv) (hr:PPs X pos ks vs trs) :
    PPs X pos (some k :: ks) (v :: vs) ((tk,tv) :: trs):=fun pins s σ H Q I h=>
  pairTrees_cons_walk (thn (hk pins s σ H _ I h) fun u s1 ⟨x,H1,I1,rx,q1⟩=>thn (hv pins s1 σ H1 _ I1 q1) fun w2 s2 ⟨y,H2,I2,ry,q2⟩=>
    thn (hr pins s2 σ H2 _ I2 q2) fun ws s3 ⟨ps,H3,I3,rel,q3⟩=>⟨(x,y) :: ps,H3,I3,.cons ⟨rx,ry⟩ rel,q3⟩)
def mergeK (kvs more:List (Key × V)):List (Key × V):=more.foldl (fun acc kv=>putK acc kv.1 kv.2) kvs
theorem KV.merge:∀ {more:List (Key × V)} {rs:List (Key × Value)} {kvs:List (Key × V)} {vs:List (Key × Value)},KV more rs→KV kvs vs→KV (mergeK kvs more) (merged vs rs):=by
  intro more rs kvs vs r
  unfold KV at r
  induction r generalizing kvs vs with
  | nil=>intro q; exact q
  | @cons p q ps qs h t ih=>
    intro r0
    have e:KV (putK kvs p.1 p.2) (stored vs q.1 q.2):=by
      have:=r0.put p.1 h.2
      rw [← h.1]; exact this
    exact ih e
theorem length_mergeK:∀ (more kvs:List (Key × V)),(mergeK kvs more).length ≤ kvs.length + more.length
  | [],kvs=>by show kvs.length ≤ kvs.length + 0; omega
  | p :: r,kvs=>by
    have h1:=length_mergeK r (putK kvs p.1 p.2)
    have h2:=length_putK kvs p.1 p.2
    show (mergeK (putK kvs p.1 p.2) r).length ≤ _
    rw [List.length_cons]; omega
theorem carries_of {P:Program} {w:World}:∀ {kvs:List (Key × V)} {ws:List (Value × Value)},VV (kvs.map fun kv=>(kV kv.1,kv.2)) ws→∃ rs,Carries (mixKind P w) ws rs∧KV kvs rs
  | [],_,r=>by rw [List.map_nil] at r; cases r; exact ⟨[],True.intro,.nil⟩
  | p :: kvs,_,r=>by
    rw [List.map_cons] at r
    cases r with
    | @cons a b as bs h t=>
      obtain ⟨rs,c,q⟩:=carries_of (P:=P) (w:=w) t
      obtain ⟨b1,b2⟩:=b
      exact ⟨(p.1,b2) :: rs,⟨kV_is h.1,rfl,c⟩,.cons ⟨rfl,h.2⟩ q⟩
def tDisp (trs:List (TE × TE)):TE:=fun σ H Q=>∀ p,H p = none→tPairs trs σ (upd H p (.dK [])) fun ps H2=>H2 p = some (.dK [])∧∃ kvs:List (Key × V),ps = kvs.map (fun kv=>(kV kv.1,kv.2))∧kvs.length ≤ 15∧Q (.ref p) (upd H2 p (.dK (mergeK [] kvs)))
theorem pe_disp {X:Cx} {pos:Pos} {keys:List (Option Expr)} {values:List Expr} {trs:List (TE × TE)} (h:PPs X pos keys values trs) (hall:keys.all (·.isSome) = true) (hl:keys.length = values.length) (h0:keys ≠ [])
    (h15:keys.length ≤ 15):PE X (.Dict keys values pos) (tDisp trs):=by
  intro pins s σ H Q I q
  have hn:=I.hok.fresh (Nat.le_refl s.heap.objs.size)
  have I1:=I.laid (a:=s.heap.objs.size) (o:=.dK []) (h':=s.heap.push { cls:=.type "dict",data:=.dict #[] }) (t':=s.toks) (fun _ _ q=>Heap.get?_push_of_some _ q) (Nat.le_refl _) (dk_empty s.heap I.big)
  refine wpAny_Dict_walk (knd:=mixKind X.prog X.w) hall hl h0 h15 (thn (h pins _ σ _ _ I1 (q _ hn)) fun ws s2 ⟨ps,H2,I2,rel,e,kvs,ep,lk,q2⟩=>?_)
  subst ep
  obtain ⟨rs,c,rk⟩:=carries_of (P:=X.prog) (w:=X.w) rel
  obtain ⟨z,hd,vs0,r0,dd⟩:=dk_of I2.hok e
  cases r0
  refine ⟨rs,c,dd,fun h' dd' hs=>⟨.ref s.heap.objs.size,_,?_,rfl,q2⟩⟩
  have hz:(mergeK [] kvs).length ≤ sizeLine:=by
    have h1:=length_mergeK kvs []
    rw [List.length_nil] at h1
    rw [sizeLine_eq]; omega
  have he:∃ q,h'.get? s.heap.objs.size = some q:=let ⟨q,_,_,hq,_⟩:=dd'; ⟨q,hq⟩
  exact d_write I2 (by rw [e]; exact True.intro) hs he (dk_new hz hd (rk.merge .nil) dd')
end L2
namespace Rev
open PySem PyProof.Rows PySem.Calls
section
variable {prog:Program} {w:World} {A:Around} {E:Value→Shared→Prop} {s:Shared} {r l:Addr} {items:Array Value}
theorem sortedD {K:Type} [DecidableEq K] {knd:PySem.KeyKind prog w K} {d:Addr} {kvs:List (K × Value)} {ep:Nat} {Q:Value→Shared→Prop} (hh:A.handled = none) (lo:(d == sysModules) = false) (hd:s.heap.DictAt knd d kvs ep) (h64:kvs.length < 64)
    {ss:List Str} (hs:∀ us:List Value,us.length = kvs.length→(∀ (j:Nat) (v:Value),us[j]? = some v→∃ (k:K) (x:Value),kvs[j]? = some (k,x)∧knd.is k v = true)→StrsAre us ss)
    (hQ:∀ (h1 h':Heap) (tk:Nat) (e:Nat) (out:Array Value) (ss':List Str),(∀ b o,s.heap.get? b = some o→h1.get? b = some o)→(∀ b o,h1.get? b = some o→h'.get? b = some o)→
      h'.get? h1.objs.size = some (seqObj "list" out e)→StrsAre out.toList ss'→ss'.Perm ss→sortedS ss' = true→Q (.ref h1.objs.size) { s with heap:=h',toks:=tk }) :
    wpAny (model prog w) A (call (.builtin "sorted") [.ref d]) Q E s:=by
  have hn:kvs.length ≤ sizeLine:=by rw [sizeLine_eq]; omega
  refine call_function_entry kind_sorted plain_sorted entry_sorted (args_sorted1 _) ?_
  unfold Builtin.«sorted»
  refine wpAny_bind (m:=checkCount "sorted" 1 1 _) (wpAny_pure ?_)
  refine wpAny_bind (W.kdu_collect (A:=A.in1) (W.kdl_dict (knd:=knd) (kvs:=kvs) (ep:=ep) lo) hh hd hn fun h1 tk acc hk hacc=>?_)
  have hl:acc.toList.length = kvs.length:=by rw [Array.length_toList]; exact hacc.1
  have hS:=hs acc.toList hl fun j v e=>hacc.2 j v (by rw [← Array.getElem?_toList]; exact e)
  refine wpAny_bind (wpAny_newList ?_ (by rw [hl]; exact hn))
  have ho : (h1.push { cls := .type "list", data := .seq acc.toList.toArray }).get? h1.objs.size = some (seqObj "list" acc.toList.toArray 0) := Heap.get?_push_size _ rfl
  refine wpAny_bind (wpAny_holding (wpAny_call_entry slot_list_sort ⟨_,ho,rfl⟩ entry_list_sort (list_sort_treeK strKind_oneLt ho hS.keysOf (fun v₁ v₂ rest e=>keyKind_strs (by rw [← e]; exact hS)) (by rw [hl]; exact h64) fun st' a1 a2=>⟨_,rfl,?_⟩) (args_list_sort _)))
  obtain ⟨ss',q1,q2,q3⟩:=sorted_out_str hS a1 a2
  obtain ⟨e,he⟩:=sortedHeap_at (out:=(arrOf st').map (·.2)) ho
  refine wpAny_pure ⟨_,rfl,hQ h1 _ tk e _ ss' hk (fun b o hb=>?_) he q1 q2 q3⟩
  have hlt:=Heap.lt_size hb
  rw [sortedHeap_old (Nat.ne_of_lt hlt) (by rw [size_push']; exact Nat.lt_succ_of_lt hlt)]
  exact Heap.get?_push_of_some _ hb
end
end Rev
namespace L2
open PySem PySem.Spec PyProof.Rows
section
variable {X:Cx}
abbrev rInD (n:Bool):R2:=fun y x H Q=>∃ a o,x = .ref a∧DGet H a y o∧Q (.bl (o.isSome != n)) H
theorem op_notInD (hu:X.A.units + 64 < cLine):OpR X (compareOp .NotIn) (rInD true):=by
  intro pins s σ H y x u v Q I ry rx h
  obtain ⟨a,o,rfl,g,q⟩:=h
  obtain rfl:v = Value.ref a:=rx
  exact d_notIn (by omega) I g ry fun s' I'=>⟨.bl (!o.isSome),H,I',rfl,by cases o <;> exact q⟩
theorem ke_dget {o i:Expr} {td ty:TE} {pos:Pos} (hu:X.A.units + 64 < cLine) (ho:QE X o td) (hi:QE X i ty) (hs:NoSl i:=by intro _ _; kernel_rfl):QE X (.Subscript o i pos) (tDGet td ty):=⟨pe_dget (by omega) ho.p hi.p hs⟩
theorem ks_dput {o i value:Expr} {td ty tv:TE} {pos pos':Pos} (hu:X.A.units + 64 < cLine) (ho:QE X o td) (hi:QE X i ty) (hv:QE X value tv) (hs:swapsWith value (some (.Subscript o i pos')) pos.line X.env = pure false:=by kernel_rfl) :
    QS X (.Assign [.Subscript o i pos'] value pos) (sDPut td ty tv):=⟨ps_dput (by omega) ho.p hi.p hv.p hs⟩
theorem ke_dnewK {pos:Pos}:QE X (.Dict [] [] pos) tDNewK:=⟨pe_dnewK⟩
abbrev rSortedD:List V→Hp→VK→Prop:=fun xs H Q=>∃ p,∃ kvs:List (List Nat × V),xs = [.ref p]∧H p = some (.dK (kvs.map fun kv=>(Key.inr (txt kv.1),kv.2)))∧kvs.length < 64∧
  ∀ l,∀ zs:List (List Nat),H l = none→zs.Perm (kvs.map (·.1))→zs.Pairwise (· ≤ ·)→Q (.ref l) (upd H l (.lst (zs.map strV)))
theorem strs_keys {P:Program} {w:World}:∀ {kvs:List (List Nat × V)} {vs:List (Key × Value)},KV (kvs.map fun kv=>(Key.inr (txt kv.1),kv.2)) vs→∀ us:List Value,us.length = vs.length→(∀ (j:Nat) (v:Value),us[j]? = some v→∃ (k:Key) (x:Value),vs[j]? = some (k,x)∧(mixKind P w).is k v = true)→StrsAre us ((kvs.map (·.1)).map txt)
  | [],_,r,us,h1,h2=>by
    cases r
    have:us = []:=List.length_eq_zero_iff.mp (by simpa using h1)
    subst this
    exact .nil
  | kv :: kvs,_,r,us,h1,h2=>by
    rw [List.map_cons] at r
    cases r with
    | @cons p q ps qs hh tt=>
      cases us with
      | nil=>simp at h1
      | cons v us=>
        obtain ⟨k,x,e1,e2⟩:=h2 0 v rfl
        simp at e1
        subst e1
        have e3:Key.inr (txt kv.1) = k:=hh.1
        subst e3
        rcases keyIs_shape (show keyIs (Key.inr (txt kv.1)) v = true from e2) with ⟨i,t,e,_⟩ | ⟨y,t,e,rfl⟩ | ⟨e,_⟩
        · cases e
        · injection e with e
          subst e
          exact .cons _ _ (strs_keys tt us (by simpa using h1) fun j v hj=>by simpa using h2 (j + 1) v (by simpa using hj))
        · cases e
theorem call_sortedD (hc:X.calm = true):CallR X (.builtin "sorted") rSortedD:=by
  intro pins s σ H xs us Q I r h
  obtain ⟨p,kvs,rfl,hH,hz,q⟩:=h
  obtain ⟨u,rfl,ru⟩:=vals1 r
  cases ru
  obtain ⟨z,hd,vs,rel,dd⟩:=dk_of I.hok hH
  obtain ⟨ep,da⟩:=dd.dictAt
  have hl:=rel.length
  rw [List.length_map] at hl
  refine Rev.sortedD (I.ok.hd hc) hd da (by rw [← hl]; exact hz) (strs_keys (P:=X.prog) (w:=X.w) rel) fun h1 h' tk e out ss' k1 k2 he a1 a2 a3=>?_
  have ez:ss' = (ss'.map fun x=>x.cps.toList).map txt:=by
    rw [List.map_map]
    have:(txt ∘ fun (x:Str)=>x.cps.toList) = id:=by funext x; exact txt_codes x
    rw [this,List.map_id]
  have hp:(ss'.map fun x=>x.cps.toList).Perm (kvs.map (·.1)):=by
    have:=a2.map (fun x:Str=>x.cps.toList)
    rw [List.map_map] at this
    have e2:((fun x:Str=>x.cps.toList) ∘ txt) = id:=by funext l; exact codes_txt l
    rw [e2,List.map_id] at this
    exact this
  rw [ez] at a3
  have hv:Vals ((ss'.map fun x=>x.cps.toList).map strV) out.toList:=by rw [map_strV,← ez]; exact vals_strs a1
  have I1:Inv X pins σ H { s with heap:=h1,toks:=s.toks }:=I.kept (t':=s.toks) k1
  refine ⟨.ref h1.objs.size,_,I1.laid (t':=tk) (a:=h1.objs.size) (o:=.lst ((ss'.map fun x=>x.cps.toList).map strV)) k2 (Nat.le_refl _) ⟨?_,out.toList,e,hv,by simpa [seqObj] using he⟩,rfl,q _ _ (I1.hok.fresh (Nat.le_refl _)) hp (sortedS_pw _ a3)⟩
  have:=hp.length_eq
  rw [List.length_map,sizeLine_eq]
  simp at this
  simp
  omega
end
end L2
namespace MinD
open PySem PyProof.Rows
theorem args_kw (a v : Value) : argsOk "min" ⟨[a], [(Str.ofString "default", v)]⟩ := by unfold argsOk; kernel_rfl
section
variable {P:Program} {wd:World} {Ar:Around} {Rs:Result→Shared→Prop} {it:Addr} {fp wr:List Addr} {n:Nat} {F:Nat→Value→Prop} {St:Nat→Heap→Prop}
theorem rest (W:Walks P wd Ar.in1 it fp wr n F St) (bt:Nat→Nat→Bool) (cmp:CmpOf P wd Ar.in1 .Lt F bt) (S:Addr) (hS:S ∉ fp) (kw:List (Str × Value)) :
    ∀ (k j:Nat) (s:Shared) (vb:Value) (c:Nat),n - (j + 1) = k→j + 1 ≤ n→St (j + 1) s.heap→F (argBest bt j) vb→s.heap.get? S = some { cls:=.type "list",dict:=none,data:=.seq #[vb,vb] c,slots:=#[] }→
    (∀ v h' tk,F (argBest bt (n - 1)) v→(∀ b o,b ∉ wr→b ≠ S→s.heap.get? b = some o→h'.get? b = some o)→Rs (.ok (.ret v)) { s with heap:=h',toks:=tk })→codeAny (model P wd) Ar (.builtin "min.loop" ⟨[.ref it,.none,.ref S],kw⟩) Rs s:=by
  have wS:S ∉ wr:=fun h=>hS (W.sub _ h)
  have nm : (toString "min" ++ toString ".loop" : String) = "min.loop" := by decide
  intro k
  induction k with
  | zero=>
    intro j s vb c hk hj st best hb q
    have e:j + 1 = n:=by omega
    refine codeAny_builtin PySem.F.entry_min_loop ?_
    rw [Around.under_plainId PySem.F.plain_min_loop _]
    show wpAny _ Ar.in1 (seqItems? (.ref S) >>= _) _ _ s
    refine wpAny_bind (wpAny_seqItems hb rfl ?_)
    show wpAny _ Ar.in1 (tryCatch (pyNext (.ref it)) _ >>= _) _ _ s
    refine wpAny_bind (wpAny_tryCatch (W.done s _ _ (e ▸ st) fun h' tk kp=>?_))
    show wpAny _ Ar.in1 (updateSeq S (fun _=>#[]) >>= _) _ _ _
    refine wpAny_bind (wpAny_updateSeq (kp S _ wS hb) rfl (wpAny_bind (wpAny_letGo (wpAny_pure ?_))))
    exact q vb _ tk (by rw [← e]; exact best) fun b o hbw hbS eb=>(Heap.get?_update_other _ _ (Ne.symm hbS)).trans (kp b o hbw eb)
  | succ k ih=>
    intro j s vb c hk hj st best hb q
    have lt:j + 1 < n:=by omega
    refine codeAny_builtin PySem.F.entry_min_loop ?_
    rw [Around.under_plainId PySem.F.plain_min_loop _]
    show wpAny _ Ar.in1 (seqItems? (.ref S) >>= _) _ _ s
    refine wpAny_bind (wpAny_seqItems hb rfl ?_)
    show wpAny _ Ar.in1 (tryCatch (pyNext (.ref it)) _ >>= _) _ _ s
    refine wpAny_bind (wpAny_tryCatch (W.item (j + 1) s _ _ lt st fun v h' tk fv st' kp=>?_))
    have hb':=kp S _ wS hb
    show wpAny _ Ar.in1 (tryCatch (holding [v,v] (richCompare .Lt v vb >>= _)) _ >>= _) _ _ _
    refine wpAny_bind (wpAny_tryCatch (wpAny_holding (wpAny_bind (cmp (j + 1) (argBest bt j) v vb _ _ _ fv best ?_))))
    refine wpAny_bind (wpAny_holding (wpAny_truthy_bool (wpAny_bind (wpAny_letGo (wpAny_pure ?_)))))
    cases eb:bt (j + 1) (argBest bt j) with
    | true=>
      simp only [if_true]
      refine wpAny_bind (wpAny_updateSeq hb' rfl (wpAny_bind (wpAny_letGo ?_)))
      rw [nm]
      refine wpAny_pure ⟨plainId_quiet PySem.F.plain_min_loop _,ih (j + 1) _ v _ (by omega) lt (W.frame _ _ _ st' fun b hbf o e=>?_) (by simp only [argBest,eb,if_true]; exact fv) (Heap.get?_update_self _ hb' rfl) fun v' h2 tk2 fv2 kp2=>?_⟩
      · exact (Heap.get?_update_other _ _ (fun z:S = b=>hS (by rw [z]; exact hbf))).trans e
      · exact q v' h2 tk2 fv2 fun b o hbw hbS e=>kp2 b o hbw hbS ((Heap.get?_update_other _ _ (Ne.symm hbS)).trans (kp b o hbw e))
    | false=>
      simp only [Bool.false_eq_true,if_false]
      refine wpAny_bind (wpAny_letGo ?_)
      rw [nm]
      refine wpAny_pure ⟨plainId_quiet PySem.F.plain_min_loop _,ih (j + 1) _ vb c (by omega) lt st' (by simp only [argBest,eb,Bool.false_eq_true,if_false]; exact best) hb' fun v' h2 tk2 fv2 kp2=>?_⟩
      exact q v' h2 tk2 fv2 fun b o hbw hbS e=>kp2 b o hbw hbS (kp b o hbw e)
theorem whole (W:Walks P wd Ar.in1 it fp wr n F St) (bt:Nat→Nat→Bool) (cmp:CmpOf P wd Ar.in1 .Lt F bt) (S:Addr) (hS:S ∉ fp) (d:Value) {s:Shared} {c:Nat} (st:St 0 s.heap) (hb:s.heap.get? S = some { cls:=.type "list",dict:=none,data:=.seq #[] c,slots:=#[] })
    (q:∀ v h' tk,(0 < n→F (argBest bt (n - 1)) v)→(n = 0→v = d)→(∀ b o,b ∉ wr→b ≠ S→s.heap.get? b = some o→h'.get? b = some o)→Rs (.ok (.ret v)) { s with heap:=h',toks:=tk }) :
    codeAny (model P wd) Ar (.builtin "min.loop" ⟨[.ref it, .none, .ref S], [("default", d)]⟩) Rs s := by
  have wS:S ∉ wr:=fun h=>hS (W.sub _ h)
  have nm : (toString "min" ++ toString ".loop" : String) = "min.loop" := by decide
  refine codeAny_builtin PySem.F.entry_min_loop ?_
  rw [Around.under_plainId PySem.F.plain_min_loop _]
  show wpAny _ Ar.in1 (seqItems? (.ref S) >>= _) _ _ s
  refine wpAny_bind (wpAny_seqItems hb rfl ?_)
  show wpAny _ Ar.in1 (tryCatch (pyNext (.ref it)) _ >>= _) _ _ s
  by_cases hn:0 < n
  · refine wpAny_bind (wpAny_tryCatch (W.item 0 s _ _ hn st fun v h' tk fv st' kp=>?_))
    have hb':=kp S _ wS hb
    show wpAny _ Ar.in1 (updateSeq S (fun _=>#[v,v]) >>= _) _ _ _
    refine wpAny_bind (wpAny_updateSeq hb' rfl ?_)
    rw [nm]
    refine wpAny_pure ⟨plainId_quiet PySem.F.plain_min_loop _,rest W bt cmp S hS _ _ 0 _ v _ rfl hn (W.frame _ _ _ st' fun b hbf o e=>?_) fv (Heap.get?_update_self _ hb' rfl) fun v' h2 tk2 fv2 kp2=>?_⟩
    · exact (Heap.get?_update_other _ _ (fun z:S = b=>hS (by rw [z]; exact hbf))).trans e
    · exact q v' h2 tk2 (fun _=>fv2) (fun z=>by omega) fun b o hbw hbS e=>kp2 b o hbw hbS ((Heap.get?_update_other _ _ (Ne.symm hbS)).trans (kp b o hbw e))
  · have e0:n = 0:=by omega
    refine wpAny_bind (wpAny_tryCatch (W.done s _ _ (e0 ▸ st) fun h' tk kp=>?_))
    first
      | exact wpAny_bind (wpAny_rule (wpAny_pure (q d h' tk (fun z=>absurd z hn) (fun _=>rfl) fun b o hbw _ e=>kp b o hbw e)))
      | (refine wpAny_bind (wpAny_rule ?_); exact wpAny_pure (q d h' tk (fun z=>absurd z hn) (fun _=>rfl) fun b o hbw _ e=>kp b o hbw e))
end
section
variable {P:Program} {wd:World} {Ar:Around} {Er:Value→Shared→Prop} {s:Shared}
theorem cmp_strs {F:Nat→Value→Prop} (val:Nat→List Nat) (hval:∀ i v,F i v→∃ t,v = Value.str (L2.txt (val i)) t):CmpOf P wd Ar .Lt F (fun i j=>decide (val i < val j)):=fun i j vi vj s Q E hi hj h=>by
  obtain ⟨t,rfl⟩:=hval i vi hi
  obtain ⟨u,rfl⟩:=hval j vj hj
  exact (lt_str (by rw [L2.codes_txt,L2.codes_txt]; exact h):wpAny (model P wd) Ar (compareOp .Lt (.str (L2.txt (val i)) t) (.str (L2.txt (val j)) u)) Q E s)
theorem call_strs (hh:Ar.handled = none) {l:Addr} {its:Array Value} {d:Value} {Q:Value→Shared→Prop} (hl:s.heap.IsList l its) (val:Nat→List Nat) (hval:∀ (i:Nat) (v:Value),its[i]? = some v→∃ t,v = Value.str (L2.txt (val i)) t)
    (h:∀ v h' tk,(0 < its.size→its[argBest (fun i j=>decide (val i < val j)) (its.size - 1)]? = some v)→(its.size = 0→v = d)→(∀ b o,s.heap.get? b = some o→h'.get? b = some o)→Q v { s with heap:=h',toks:=tk }) :
    wpAny (model P wd) Ar (call (.builtin "min") [.ref l] [(Str.ofString "default",d)]) Q Er s:=by
  have nm : (toString "min" ++ toString ".loop" : String) = "min.loop" := by decide
  refine PyProof.Rows.kmk_tree PySem.F.kind_min PySem.F.plain_min PySem.F.entry_min (args_kw _ _) ?_
  show wpAny _ Ar.in1 (Builtin.Builtins.bindParams "min" ["key", "default"] 0 ⟨[], [(Str.ofString "default", d)]⟩ >>= _) _ _ s
  refine wpAny_bind (wpAny_of_eq (show Builtin.Builtins.bindParams "min" ["key", "default"] 0 ⟨[], [(Str.ofString "default", d)]⟩ = pure [none, some d] from rfl) ?_)
  refine wpAny_bind (wpAny_pure ?_)
  have hlt:l < s.heap.objs.size:=by obtain ⟨_,e,_⟩:=hl; exact Heap.lt_size e
  have hlI:l ≠ s.heap.objs.size:=Nat.ne_of_lt hlt
  refine wpAny_bind (wpAny_pyIter_list hl ?_)
  refine wpAny_bind (wpAny_newObj_type ?_)
  rw [nm]
  have W:=Walks.list (prog:=P) (w:=wd) (A:=Ar.in1) hh s.heap.objs.size l hlI its
  have st : ((s.heap.push { cls := .type "list_iterator", data := .fields #[.ref l, .int 0 0] }).IsListIter s.heap.objs.size l 0 ∧ (s.heap.push { cls := .type "list_iterator", data := .fields #[.ref l, .int 0 0] }).IsList l its) := ⟨⟨_, Heap.get?_push_size _ rfl, rfl, rfl⟩, hl.push _⟩
  refine wpAny_pure ⟨plainId_quiet PySem.F.plain_min_loop _,whole W _ (cmp_strs val hval) _ (fun hm=>?_) d (W.frame _ _ _ st fun b _ o e=>Heap.get?_push_of_some _ e) (Heap.get?_push_size _ rfl) fun v h' tk f1 f2 kp=>?_⟩
  · have hz:(s.heap.push { cls:=.type "list_iterator",data:=.fields #[.ref l,.int 0 0] }).objs.size = s.heap.objs.size + 1:=Heap.size_push ..
    rw [hz] at hm
    rcases List.mem_cons.mp hm with e | hm
    · exact absurd e (Nat.succ_ne_self _)
    · have:=List.mem_singleton.mp hm
      exact absurd hlt (by rw [← this]; exact Nat.not_lt_of_le (Nat.le_succ _))
  refine h v h' tk f1 f2 fun b o e=>kp b o ?_ ?_ ?_
  · intro z
    have:=List.mem_singleton.mp z
    exact absurd (this ▸ Heap.lt_size e) (Nat.lt_irrefl _)
  · refine Nat.ne_of_lt (Nat.lt_of_lt_of_le (Heap.lt_size e) ?_)
    show s.heap.objs.size ≤ (s.heap.push _).objs.size
    rw [Heap.size_push]
    exact Nat.le_succ _
  · exact Heap.get?_push_of_some _ (Heap.get?_push_of_some _ e)
theorem best_le (f:Nat→List Nat):∀ k,argBest (fun i j=>decide (f i < f j)) k ≤ k∧∀ j,j ≤ k→¬ f j < f (argBest (fun i j=>decide (f i < f j)) k)
  | 0=>by
    refine ⟨Nat.le_refl _,fun j hj=>?_⟩
    have e:j = 0:=by omega
    rw [e]
    exact List.lt_irrefl _
  | k + 1=>by
    obtain ⟨a,b⟩:=best_le f k
    unfold argBest
    by_cases h:f (k + 1) < f (argBest (fun i j=>decide (f i < f j)) k)
    · rw [if_pos (decide_eq_true h)]
      refine ⟨Nat.le_refl _,fun j hj=>?_⟩
      by_cases e:j = k + 1
      · subst e; exact List.lt_irrefl _
      · exact fun z=>b j (by omega) (List.lt_trans z h)
    · rw [if_neg (by simpa using h)]
      refine ⟨by omega,fun j hj=>?_⟩
      by_cases e:j = k + 1
      · subst e; exact h
      · exact b j (by omega)
end
end MinD
namespace L2
open PySem PySem.Spec PyProof.Rows
def tMinD (K:PySem.W.Frag) (ta td:TE):TE:=fun σ H Q=>ta σ H fun x H1=>td σ H1 fun d H2=>∃ p,∃ ns:List (List Nat),x = .ref p∧SqL K H2 p (ns.map strV)∧(ns = []→Q d H2)∧(∀ m,m ∈ ns→(∀ y ∈ ns,¬ y < m)→Q (.str (txt m)) H2)
section
variable {X:Cx}
theorem pe_minD {e d : Expr} {ta td : TE} {p pos kp : Pos} (hc : X.calm = true) (hg : Gl X "min") (hm : X.mg "min" = none) (he : PE X e ta) (hd : PE X d td)
    (h1:backTo pos (starEach [e] X.env) = (false,eval e X.env) :: backTo pos (starEach [] X.env)) (h2:(backTo pos (starEach [e] X.env)).any (·.1) = false)
    (h3 : (backToKw pos (keywordEach [⟨some "default", d, kp⟩] X.env)).all (·.1.isSome) = true) (h4 : (backToKw pos (keywordEach [⟨some "default", d, kp⟩] X.env)).any (·.1.isNone) = false)
    (h5 : (backToKw pos (keywordEach [⟨some "default", d, kp⟩] X.env)).filterMap (·.1) = [Str.ofString "default"]) (hs : starEach [e] X.env = (false, eval e X.env) :: starEach [] X.env) :
    PE X (.Call (.Name "min" p) [e] [⟨some "default",d,kp⟩] pos) (tMinD X.K ta td):=by
  intro pins s σ H Q I h
  refine wpAny_Call_Name_kw (ld_blt I hg hm PyProof.Rows.Boot.«min» ?_ (by decide) (by decide))
  refine PyProof.Rows.callWith_kw ?_ h1 h2 h3 h4
  refine thn (pa_cons he pa_nil hs pos pins s σ H (fun vs H1=>∃ x,vs = [x]∧td σ H1 fun d H2=>∃ p,∃ ns:List (List Nat),x = .ref p∧SqL X.K H2 p (ns.map strV)∧(ns = []→Q d H2)∧(∀ m,m ∈ ns→(∀ y ∈ ns,¬ y < m)→Q (.str (txt m)) H2)) I ?_) fun us s1 ⟨vs,H1,I1,r1,x,e1,q1⟩=>?_
  · exact (show ta σ H fun x H1=>∃ y,[x] = [y]∧_ from by
      have:(fun (x:V) (H1:Hp)=>td σ H1 fun d H2=>∃ p,∃ ns:List (List Nat),x = .ref p∧SqL X.K H2 p (ns.map strV)∧(ns = []→Q d H2)∧(∀ m,m ∈ ns→(∀ y ∈ ns,¬ y < m)→Q (.str (txt m)) H2)) = fun (x:V) (H1:Hp)=>∃ y,[x] = [y]∧td σ H1 fun d H2=>∃ p,∃ ns:List (List Nat),y = .ref p∧SqL X.K H2 p (ns.map strV)∧(ns = []→Q d H2)∧(∀ m,m ∈ ns→(∀ y ∈ ns,¬ y < m)→Q (.str (txt m)) H2):=by
        funext x H1
        exact propext ⟨fun z=>⟨x,rfl,z⟩,fun ⟨y,e,z⟩=>by cases e; exact z⟩
      unfold tMinD at h
      rw [this] at h
      exact h)
  · subst e1
    obtain ⟨u,rfl,ru⟩:=vals1 r1
    refine thn (pk_cons hd pk_nil pos pins s1 σ H1 (fun vs H2=>∃ d,vs = [d]∧∃ p,∃ ns:List (List Nat),x = .ref p∧SqL X.K H2 p (ns.map strV)∧(ns = []→Q d H2)∧(∀ m,m ∈ ns→(∀ y ∈ ns,¬ y < m)→Q (.str (txt m)) H2)) I1 ?_) fun ws s2 ⟨zs,H2,I2,r2,dv,e2,pa,ns,e3,hq,q0,q2⟩=>?_
    · exact (show td σ H1 fun d H2=>∃ d',[d] = [d']∧_ from by
        have:(fun (d:V) (H2:Hp)=>∃ p,∃ ns:List (List Nat),x = .ref p∧SqL X.K H2 p (ns.map strV)∧(ns = []→Q d H2)∧(∀ m,m ∈ ns→(∀ y ∈ ns,¬ y < m)→Q (.str (txt m)) H2)) = fun (d:V) (H2:Hp)=>∃ d',[d] = [d']∧∃ p,∃ ns:List (List Nat),x = .ref p∧SqL X.K H2 p (ns.map strV)∧(ns = []→Q d' H2)∧(∀ m,m ∈ ns→(∀ y ∈ ns,¬ y < m)→Q (.str (txt m)) H2):=by
          funext d H2
          exact propext ⟨fun z=>⟨d,rfl,z⟩,fun ⟨y,e,z⟩=>by cases e; exact z⟩
        rw [this] at q1
        exact q1)
    · subst e2 e3
      cases ru
      obtain ⟨wv,rfl,rw'⟩:=vals1 r2
      rw [h5]
      obtain ⟨its,rv,pl,hz⟩:=I2.list hq
      have lx:ns.length = its.length:=by have:=rv.length; rwa [List.length_map] at this
      have hval:∀ (i:Nat) (v:Value),its.toArray[i]? = some v→∃ t,v = Value.str (txt (ns.getD i [])) t:=fun i v e=>by
        rw [List.getElem?_toArray] at e
        have hi:=(List.getElem?_eq_some_iff.mp e).1
        obtain ⟨u,hu,ru⟩:=rv.get (i:=i) (x:=strV ns[i]) (by rw [List.getElem?_map,List.getElem?_eq_getElem (by omega)]; rfl)
        rw [e] at hu
        cases hu
        rw [List.getD_eq_getElem?_getD,List.getElem?_eq_getElem (by omega)]
        exact ru
      show wpAny _ X.A (call (.builtin "min") [.ref pa] [(Str.ofString "default",wv)]) _ _ _
      refine MinD.call_strs (I2.ok.hd hc) pl.isList (fun i=>ns.getD i []) hval fun v h' tk f1 f2 kp=>?_
      have I3:Inv X pins σ H2 { s2 with heap:=h',toks:=tk }:=I2.kept kp
      by_cases hn:ns = []
      · have:its.toArray.size = 0:=by rw [List.size_toArray,← lx,hn]; rfl
        rw [f2 this]
        exact ⟨dv,H2,I3,rw',q0 hn⟩
      · have h0:0 < its.toArray.size:=by rw [List.size_toArray,← lx]; exact List.length_pos_iff.mpr hn
        have fv:=f1 h0
        obtain ⟨b1,b2⟩:=MinD.best_le (fun i=>ns.getD i []) (its.toArray.size - 1)
        generalize argBest _ (its.toArray.size - 1) = k at fv b1 b2
        obtain ⟨t,rfl⟩:=hval k v fv
        have at_:∀ i,i < ns.length→ns[i]? = some (ns.getD i []):=fun i hi=>by
          rw [List.getD_eq_getElem?_getD,List.getElem?_eq_getElem hi]
          rfl
        rw [List.size_toArray,← lx] at h0 b1 b2
        refine ⟨.str _,H2,I3,⟨t,rfl⟩,q2 _ (List.mem_of_getElem? (at_ k (by omega))) fun y hy=>?_⟩
        obtain ⟨i,hi,e⟩:=List.getElem_of_mem hy
        have:=at_ i hi
        rw [List.getElem?_eq_getElem hi,e] at this
        rw [Option.some.inj this]
        exact b2 i (by omega)
end
section
variable {X:Cx} {e o value d:Expr} {es:List Expr} {f x m:Str} {pos pos' p apos kp:Pos} {ta tv td:TE} {t:TA}
theorem ke_minD (he : QE X e ta) (hd : QE X d td) (hm : X.mg "min" = none) (hc : X.calm = true := by kernel_rfl) (hg : X.env.kindOf "min" = some .globalImplicit := by kernel_rfl)
    (h1:backTo pos (starEach [e] X.env) = (false,eval e X.env) :: backTo pos (starEach [] X.env):=by kernel_rfl) (h2:(backTo pos (starEach [e] X.env)).any (·.1) = false:=by kernel_rfl)
    (h3 : (backToKw pos (keywordEach [⟨some "default", d, kp⟩] X.env)).all (·.1.isSome) = true := by kernel_rfl) (h4 : (backToKw pos (keywordEach [⟨some "default", d, kp⟩] X.env)).any (·.1.isNone) = false := by kernel_rfl)
    (h5 : (backToKw pos (keywordEach [⟨some "default", d, kp⟩] X.env)).filterMap (·.1) = [Str.ofString "default"] := by kernel_rfl) (hs : starEach [e] X.env = (false, eval e X.env) :: starEach [] X.env := by kernel_rfl) :
    QE X (.Call (.Name "min" p) [e] [⟨some "default",d,kp⟩] pos) (tMinD X.K ta td):=⟨pe_minD hc hg hm he.p hd.p h1 h2 h3 h4 h5 hs⟩
end
section
variable {X:Cx} {pins:List (Addr × Obj)} {σ:St} {H:Hp} {s:Shared}
theorem Inv.freeze {d:Addr} {o:Obj} {kvs:List (Key × V)} (I:Inv X pins σ H s) (hd:H d = some (.dK kvs)) (ho:s.heap.get? d = some o):Inv X pins σ (upd H d (.frz o (.dK kvs))) s:=by
  have ok:=I.hok d _ hd
  have new:ObjOk X.prog X.w (upd H d (.frz o (.dK kvs))) s.heap d (.frz o (.dK kvs)):=⟨ho,ok⟩
  exact I.write (t':=s.toks) (h':=s.heap) (x:=d) (e:=d) (by rw [hd]; exact True.intro) (.inl rfl) (fun _ _ _ e=>e) ⟨o,ho⟩ new
theorem Inv.thaw {σ0:St} {pins0:List (Addr × Obj)} {H0:Hp} {s0:Shared} {d:Addr} {o:Obj} {k0 kvs:List (Key × V)} (I0:Inv X pins0 σ0 H0 s0) (h0:H0 d = some (.dK k0)) (I:Inv X pins σ H s) (hd:H d = some (.frz o (.dK kvs))):Inv X pins σ (upd H d (.dK kvs)) s:=by
  have ne:∀ {b:Addr},H b = none→b ≠ d:=fun h z=>by subst z; rw [hd] at h; cases h
  have ok:=I.hok d _ hd
  refine ⟨I.ok,I.os,I.bare,⟨I.base.keep,I.base.slot,fun b ob e n hx=>?_,I.base.there,fun b xs e=>?_,fun b ob u e=>?_,fun b ps e=>?_⟩,I.loc,I.cell,?_,fun x c e=>?_,fun p hp=>?_,fun b u e=>?_,I.len⟩
  · have:=I.base.free b ob e n hx
    rw [upd_ne (ne this)]
    exact this
  · have:=I.base.tups b xs e
    rw [upd_ne (fun z=>by subst z; rw [hd] at this; cases this)]
    exact this
  · have:=I.base.frzs b ob u e
    rw [upd_ne (fun z=>by subst z; have q:=I0.base.frzs _ ob u e; rw [h0] at q; cases q)]
    exact this
  · obtain ⟨more,this⟩:=I.base.tbls b ps e
    exact ⟨more,by rw [upd_ne (fun z=>by subst z; rw [hd] at this; cases this)]; exact this⟩
  · rw [upd_ne (ne I.free)]; exact I.free
  · rw [upd_ne (ne (I.freeC x c e))]; exact I.freeC x c e
  · obtain ⟨a,b,c⟩:=I.pin p hp
    exact ⟨a,by rw [upd_ne (ne b)]; exact b,c⟩
  · have st:∀ {a:Addr} {u:HO},ObjOk X.prog X.w H s.heap a u→ObjOk X.prog X.w (upd H d (.dK kvs)) s.heap a u:=fun x=>x.stay (fun _ _ _ q=>q)
      (fun c q=>by rw [upd_ne (fun z=>by subst z; rw [hd] at q; cases q)]; exact q) (fun c xs q=>by rw [upd_ne (fun z=>by subst z; rw [hd] at q; cases q)]; exact q)
    by_cases hb:b = d
    · subst hb
      rw [upd_same] at e
      cases e
      exact st ok.2
    · rw [upd_ne hb] at e
      exact st (I.hok b u e)
def Itd (a:Addr) (o:Obj) (kvs:List (Key × V)):It:=⟨fun i H=>H a = some (.frz o (.dK kvs))∧i < kvs.length,fun i H x H'=>H' = H∧∃ k v,kvs[i]? = some (k,v)∧x = kV k,fun i H=>H a = some (.frz o (.dK kvs))∧kvs.length ≤ i⟩
theorem KV.get {kvs:List (Key × V)} {vs:List (Key × Value)} (r:KV kvs vs):∀ {i:Nat} {k:Key} {v:V},kvs[i]? = some (k,v)→∃ u,vs[i]? = some (k,u):=by
  induction r with
  | nil=>intro i k v e; simp at e
  | @cons p q ps qs h t ih=>
    intro i k v e
    cases i with
    | zero=>
      simp at e
      subst e
      obtain ⟨q1,q2⟩:=q
      have h1:k = q1:=h.1
      subst h1
      exact ⟨q2,rfl⟩
    | succ i=>exact ih (by simpa using e)
theorem frz_at {P:Program} {w:World} {h:Heap} {a:Addr} {o:Obj} {es:Array DictEntry} {ep:Nat} {kvs:List (Key × V)} (hd:o.data = .dict es ep) (x:ObjOk P w H h a (.frz o (.dK kvs))):∃ vs,KV kvs vs∧h.DictAt (mixKind P w) a vs ep:=by
  obtain ⟨ho,z,y,vs,r,ob,es',ep',e,c1,c2,c3⟩:=x
  rw [ho] at e
  cases e
  rw [hd] at c2
  cases c2
  exact ⟨vs,r,o,es,ho,c1,hd,c3⟩
theorem key_rel {P:Program} {w:World} {k:Key} {u:Value} (h:(mixKind P w).is k u = true):RelV (kV k) u:=by
  rcases keyIs_shape (show keyIs k u = true from h) with ⟨i,t,rfl,rfl⟩ | ⟨x,t,rfl,rfl⟩ | ⟨rfl,rfl⟩
  · exact ⟨t,rfl⟩
  · exact ⟨t,rfl⟩
  · rfl
theorem turn_dict {P:Program} {w:World} {K:PySem.W.Frag} {tg:Expr} (a it:Addr) (o:Obj) (kvs:List (Key × V)) (es:Array DictEntry) (ep:Nat) (hdt:o.data = .dict es ep):Turn P w K tg (Itd a o kvs) [it] it (fun i h=>h.IsKeyIter it a i kvs.length ep) where
  mem:=by simp
  obj:=fun i h st b hb=>by
    have e:b = it:=by simpa using hb
    subst e
    obtain ⟨o,e,c,d⟩:=st
    exact ⟨o,e,fun v z=>by rw [d] at z; cases z⟩
  keep:=fun i h h' st k=>st.at fun o e=>k it (by simp) o e
  item:=by
    intro X hP hw hK hc i pins s σ H E I hf st hg
    subst hP hw hK
    obtain ⟨hq,hx⟩:=hg
    obtain ⟨vs,r,da⟩:=frz_at hdt (I.hok a _ hq)
    have hl:=r.length
    rw [hl] at st
    obtain ⟨⟨k,v⟩,hkv⟩:∃ p,kvs[i]? = some p:=⟨kvs[i],List.getElem?_eq_getElem hx⟩
    obtain ⟨u,hu⟩:=r.get hkv
    obtain ⟨f0,f1,f2,f3,f4,f5⟩:=hf it (by simp)
    refine wpAny_pyNext_dict_item st da hu fun key h' hk st' sb=>?_
    have I1:Inv X pins σ H { s with heap:=h' }:=I.turned (t':=s.toks) (fun b o hb e=>(sb.2 b hb).trans e) f0 f1 f3 f4 f5
    obtain ⟨ob,e,c,d⟩:=id st'
    rw [← hl] at st'
    exact ⟨key,rfl,go_of (s:={ s with heap:=h' }) e c d (by decide) ⟨kV k,H,I1,key_rel hk,⟨rfl,k,v,hkv,rfl⟩,st',fun b hb=>(hf b hb).1⟩⟩
  done:=by
    intro X hP hw hK hc i pins s σ H E I hf st hg
    subst hP hw hK
    obtain ⟨hq,hx⟩:=hg
    obtain ⟨vs,r,da⟩:=frz_at hdt (I.hok a _ hq)
    have hl:=r.length
    rw [hl] at st
    obtain ⟨f0,f1,f2,f3,f4,f5⟩:=hf it (by simp)
    exact wpAny_pyNext_dict_end (I.ok.hd hc) st da (List.getElem?_eq_none (by omega)) fun h' eb=>⟨rfl,I.turned (t':=s.toks) (fun b o hb e=>eb b o hb e) f0 f1 f3 f4 f5⟩
  self:=fun _ _ _ _ _ st h=>wpAny_pyIter_keyiter st h
def iDict (tl:TE):TI:=fun σ H R=>tl σ H fun x H1=>∃ a kvs,x = .ref a∧H1 a = some (.dK kvs)∧∀ o,R (Itd a o kvs) (upd H1 a (.frz o (.dK kvs)))
theorem pi_dict {tg l:Expr} {tl:TE} (hl:PE X l tl):PI X tg l (iDict tl):=by
  intro pins s σ H R I h
  refine thn (hl pins s σ H _ I h) fun v s1 ⟨x,H1,I1,r1,q1⟩=>?_
  obtain ⟨a,kvs,e,hd,q⟩:=q1
  subst e
  cases r1
  obtain ⟨z,hs,vs,rel,dd⟩:=dk_of I1.hok hd
  obtain ⟨ep,da⟩:=dd.dictAt
  obtain ⟨o,es,ho,c1,c2,c3⟩:=id da
  have hlen:=rel.length
  refine wpAny_pyIter_dict hs da ?_
  have I2:=(I1.freeze hd ho).kept (t':=s1.toks) (h':=s1.heap.push { cls:=.type "dict_keyiterator",data:=.fields #[.ref a,.int 0 0,.int vs.length 0,.int ep 0] }) fun b o e=>Heap.get?_push_of_some _ e
  refine ⟨s1.heap.objs.size,[s1.heap.objs.size],_,_,_,rfl,I2,turn_dict a _ o kvs es ep c2,⟨_,Heap.get?_push_size _ rfl,rfl,by rw [hlen]; rfl⟩,fun b hb=>?_,q o⟩
  have e:b = s1.heap.objs.size:=by simpa using hb
  subst e
  exact (I1.freeze hd ho).fpOk (Nat.le_refl _) ((I1.freeze hd ho).hok.fresh (Nat.le_refl _))
theorem ki_dict {tg a:Expr} {tl:TE} (hl:QE X a tl):QI X tg a (iDict tl):=⟨pi_dict hl.p⟩
def tThaw (te:TE):TE:=fun σ H Q=>te σ H fun x H1=>∃ a o k0 kvs,H a = some (.dK k0)∧H1 a = some (.frz o (.dK kvs))∧Q x (upd H1 a (.dK kvs))
theorem ke_thaw {e:Expr} {te:TE} (h:QE X e te):QE X e (tThaw te):=⟨fun pins s σ H Q I q=>thn (h.p pins s σ H _ I q) fun v s1 ⟨x,H1,I1,r1,a,o,k0,kvs,h0,h1,q1⟩=>⟨x,_,I.thaw h0 I1 h1,r1,q1⟩⟩
theorem comp_d {tl:TE} {a:Addr} {kvs:List (Key × V)} {σ:St} {fs:List Nat} {tt:TT} {te:TE} {H:Hp} {Q:VK} (ha:∀ Q:VK,Q (.ref a) H→tl σ H Q) (hq:H a = some (.dK kvs)) (Pv:Nat→List V→Hp→Prop) (h0:∀ H',(∀ b,b ≠ a→H' b = H b)→Pv 0 [] H') (hl:∀ i ys H',i ≤ kvs.length→Pv i ys H'→ys.length ≤ i) (hn:kvs.length ≤ sizeLine)
    (hs:∀ i k v ys H',kvs[i]? = some (k,v)→Pv i ys H'→∀ R:List V→Hp→Prop,(∀ ys' H'',Pv (i + 1) ys' H''→H'' a = H' a→R ys' H'')→tt (some (kV k) :: compSt fs σ) H' fun b H2=>if b = true then te (some (kV k) :: compSt fs σ) H2 fun y H3=>R (ys ++ [y]) H3 else R ys H2)
    (hd:∀ ys H',Pv kvs.length ys H'→∀ p,H' p = none→p ≠ a→Q (.ref p) (upd (upd H' a (.dK kvs)) p (.lst ys))):tThaw (tComp (iDict tl) fs tt te) σ H Q:=by
  refine ha _ ⟨a,kvs,rfl,hq,fun o=>?_⟩
  refine ⟨fun i m ys H'=>m = kvs.length - i∧i ≤ kvs.length∧H' a = some (.frz o (.dK kvs))∧Pv i ys H',⟨kvs.length,by simp,Nat.zero_le _,upd_same,h0 _ fun b hb=>upd_ne hb⟩,?_⟩
  rintro i m ys H' ⟨rfl,hi,hf,p⟩
  have hle:=hl i ys H' hi p
  refine ⟨by omega,?_⟩
  by_cases hlt:i < kvs.length
  · refine .inr ⟨⟨hf,hlt⟩,by omega,fun x H'' y=>?_⟩
    obtain ⟨e,k,v,hkv,ex⟩:=y
    subst e ex
    exact hs i k v ys _ hkv p (fun ys' H2=>∃ m',m' < kvs.length - i∧m' = kvs.length - (i + 1)∧i + 1 ≤ kvs.length∧H2 a = some (.frz o (.dK kvs))∧Pv (i + 1) ys' H2) fun ys' H2 q e=>⟨kvs.length - (i + 1),by omega,rfl,hlt,by rw [e]; exact hf,q⟩
  · have e:i = kvs.length:=by omega
    subst e
    refine .inl ⟨⟨hf,Nat.le_refl _⟩,fun p2 hp2=>?_⟩
    have ne:p2 ≠ a:=fun z=>by subst z; rw [hf] at hp2; cases hp2
    refine ⟨a,o,kvs,kvs,hq,by rw [upd_ne (Ne.symm ne)]; exact hf,?_⟩
    have eq:upd (upd H' p2 (.lst ys)) a (.dK kvs) = upd (upd H' a (.dK kvs)) p2 (.lst ys):=by
      funext b
      unfold upd
      by_cases h1:b = a
      · subst h1; simp [Ne.symm ne]
      · by_cases h2:b = p2
        · subst h2; simp [h1]
        · simp [h1,h2]
    rw [eq]
    exact hd ys H' p p2 hp2 ne
end
end L2
namespace DOf
open PySem PyProof.Rows PySem.Calls
theorem miss:typeLookup (.type "list") "keys" = pure none:=by rw [typeLookup_type,builtinLookup_eq_fast]; kernel_rfl
section
variable {prog:Program} {w:World} {A:Around} {E:Value→Shared→Prop}
theorem keys_none {s:Shared} {a:Addr} {o:Obj} {xs:Array Value} {k:Nat} {Q:Option Value→Shared→Prop}
    (hx:s.heap.get? a = some o) (hc:o.cls = .type "list") (hdat:o.data = .seq xs k) (hd:o.dict = none) (hA:A.handled = none)
    (h:∀ h' tk e,Heap.NewExcOf s.heap h' e "AttributeError"→Q none { s with heap:=h',toks:=tk }) :
    wpAny (model prog w) A (getAttr? (.ref a) "keys") Q E s:=by
  obtain ⟨c,dct,dat,sl⟩:=o
  simp only at hc hdat hd
  subst hc hdat hd
  obtain ⟨hp,g,d,tk,os⟩:=s
  have hT:∀ tk',(⟨hp,g,d,tk',os⟩:Shared).TypeIs (.ref a) "list":=fun _=>⟨_,hx,rfl⟩
  have f1:=sub_AttributeError
  have f3:=F.slot_list_getattribute.lookup
  have f4:=F.slot_list_getattribute.bind (.ref a)
  have f5:=am_list_getattr_none
  unfold getAttr? getAttrBy? getAttrBy
  repeat (any_goals (first | assumption | exact hT _ | ((with_reducible show wpAny _ _ (call (Value.builtin "list.__getattribute__") _ _) _ _ _); refine call_meets F.slot_list_getattribute (hT _) am_entry_list_getattribute (F.args_list_getattribute_2 _ _) (meets_getattribute_miss_list a xs k sl "keys" _ miss (by decide +kernel) (by size_fits)) ⟨hx,hA,fun h' tk' e hx'=>?_⟩) | wp_step))
  obtain ⟨t',u',he⟩:=hx'.there
  show wpAny _ _ (getattributeRaised _ _ _ _ _ _ _) _ _ _
  unfold getattributeRaised
  repeat (any_goals (first | assumption | wp_step))
  exact h _ _ _ hx'.of
theorem entry_loop:entryFor table "dict.update.loop" = some Builtin.«dict.update.loop»:=by first | exact entryFor_of_fast (by kernel_rfl) | exact entryFor_of_tree (by kernel_rfl)
theorem plain_loop:plainId "dict.update.loop" = true:=by decide +kernel
variable {K:Type} [DecidableEq K] {knd:PySem.KeyKind prog w K}
def Pairs2 (knd:PySem.KeyKind prog w K) (h:Heap) (items:List Value) (ps:List (K × Value)):Prop:=items.length = ps.length∧∀ (j:Nat) (k:K) (v:Value),ps[j]? = some (k,v)→∃ a u,items[j]? = some (.ref a)∧h.IsTuple a #[u,v]∧knd.is k u = true
theorem loop (hh:A.handled = none) {d it l:Addr} (hil:it ≠ l) (hid:it ≠ d) (hdl:d ≠ l) {items:List Value} {ps:List (K × Value)} {R:Result→Shared→Prop} :
    ∀ (n i:Nat) (s:Shared) (kvs:List (K × Value)),ps.length = i + n→s.heap.IsListIter it l i→s.heap.IsList l items.toArray→s.heap.DictOf knd d kvs→Pairs2 knd s.heap items ps→kvs.length + n ≤ sizeLine→
    (∀ h' tk,h'.DictOf knd d (merged kvs (ps.drop i))→(∀ b o,b ≠ d→b ≠ it→s.heap.get? b = some o→h'.get? b = some o)→R (.ok (.ret .none)) { s with heap:=h',toks:=tk })→
    codeAny (model prog w) A (.builtin "dict.update.loop" ⟨[.ref d,.ref it,rawInt (i:Int),.none],[]⟩) R s:=by
  intro n
  induction n with
  | zero=>
    intro i s kvs hn st hl hd hp hz q
    have hps:ps.drop i = []:=List.drop_of_length_le (by omega)
    rw [hps] at q
    refine codeAny_builtin entry_loop ?_
    rw [Around.under_plainId plain_loop _]
    show wpAny _ A.in1 (pyNext (.ref it) >>= _) _ _ s
    refine wpAny_bind (wpAny_pyNext_list_end (A:=A.in1) hh st hl (by rw [List.getElem?_toArray]; exact List.getElem?_eq_none (by rw [hp.1]; omega)) fun h' eb=>?_)
    show wpAny _ A.in1 (Builtin.Dict.addKeywords d [] >>= _) _ _ _
    refine wpAny_bind (wpAny_pure (wpAny_pure ?_))
    have hd':h'.DictOf knd d kvs:=hd.extBut eb hid.symm
    exact q h' _ hd' fun b o _ hb e=>eb b o hb e
  | succ n ih=>
    intro i s kvs hn st hl hd hp hz q
    obtain ⟨⟨k,v⟩,hkv⟩:∃ p,ps[i]? = some p:=⟨_,List.getElem?_eq_getElem (show i < ps.length by omega)⟩
    obtain ⟨a,u,hit,ht,hk⟩:=hp.2 i k v hkv
    refine codeAny_builtin entry_loop ?_
    rw [Around.under_plainId plain_loop _]
    show wpAny _ A.in1 (pyNext (.ref it) >>= _) _ _ s
    refine wpAny_bind (wpAny_pyNext_list_item st hl (x:=.ref a) (by simpa using hit) fun h' st' sb=>?_)
    show wpAny _ A.in1 (holding [.ref a] _ >>= _) _ _ _
    refine wpAny_bind (wpAny_holding (wpAny_bind (wpAny_tryCatch ?_)))
    unfold Builtin.Dict.pairItems
    have ne:∀ b xs,s.heap.IsTuple b xs→b ≠ it∧b ≠ d:=fun b xs ⟨o,ho,hc,_⟩=>by
      refine ⟨fun z=>?_,fun z=>?_⟩
      · obtain ⟨o',ho',hc',_⟩:=st
        rw [z,ho'] at ho
        cases ho
        rw [hc'] at hc
        injection hc with hc
        exact absurd hc (by decide)
      · obtain ⟨o',ho',hc'⟩:=hd.typeIs (s:=s)
        rw [z,ho'] at ho
        cases ho
        rw [hc'] at hc
        injection hc with hc
        exact absurd hc (by decide)
    have ht':h'.IsTuple a #[u,v]:=let ⟨o,ho,r⟩:=ht; ⟨o,(sb.2 a (ne a _ ht).1).trans ho,r⟩
    obtain ⟨o,ho,hc,n0,hdat⟩:=id ht'
    refine wpAny_bind (wpAny_typeOf (T:="tuple") ⟨o,ho,hc⟩ ?_)
    rw [if_pos (by decide)]
    refine wpAny_bind (wpAny_seqItems ho hdat (wpAny_pure ?_))
    show wpAny _ _ (holding [u,v] (dictSet d u v)) _ _ _
    have hd':h'.DictOf knd d kvs:=hd.extBut sb.extBut hid.symm
    refine wpAny_holding (wpAny_dictSet_pairs hk hd' (fun h2 hd2 sb2=>?_) (by omega))
    have e1:merged kvs (ps.drop i) = merged (stored kvs k v) (ps.drop (i + 1)):=by
      rw [List.drop_eq_getElem_cons (show i < ps.length by omega)]
      have:ps[i] = (k,v):=Option.some.inj ((List.getElem?_eq_getElem _).symm.trans hkv)
      rw [this]
      rfl
    rw [e1] at q
    have kp:∀ b o,b ≠ d→b ≠ it→s.heap.get? b = some o→h2.get? b = some o:=fun b o h1 h2' e=>(sb2.2 b h1).trans ((sb.2 b h2').trans e)
    refine wpAny_pure ⟨plainId_quiet plain_loop _,?_⟩
    have:=ih (i + 1) { s with heap:=h2,toks:=s.toks + 1 } (stored kvs k v) (by omega) (st'.at fun o e=>(sb2.2 it hid).trans e) (hl.at fun o e=>kp l o hdl.symm hil.symm e) hd2
      ⟨hp.1,fun j k' v' e=>by
        obtain ⟨a',u',x1,x2,x3⟩:=hp.2 j k' v' e
        obtain ⟨o',y1,y2⟩:=id x2
        exact ⟨a',u',x1,⟨o',kp a' o' (ne a' _ x2).2 (ne a' _ x2).1 y1,y2⟩,x3⟩⟩
      (by have:=stored_length_le kvs k v; omega) fun h3 tk hd3 k3=>q h3 tk hd3 fun b o h1 h2' e=>k3 b o h1 h2' (kp b o h1 h2' e)
    rwa [show ((i + 1:Nat):Int) = (i:Int) + 1 by omega] at this
theorem call_dict {s:Shared} {l:Addr} {items:List Value} {c:Nat} {ps:List (K × Value)} {Q:Value→Shared→Prop} (hh:A.handled = none) (hlst:s.heap.get? l = some { cls:=.type "list",dict:=none,data:=.seq items.toArray c,slots:=#[] }) (hp:Pairs2 knd s.heap items ps) (hz:ps.length ≤ sizeLine)
    (h:∀ h' tk,h'.DictOf knd s.heap.objs.size (merged [] ps)→(∀ b o,s.heap.get? b = some o→h'.get? b = some o)→Q (.ref s.heap.objs.size) { s with heap:=h',toks:=tk }) :
    wpAny (model prog w) A (call (.type "dict") [.ref l]) Q E s:=by
  refine callType_codes (Q₁:=fun obj s₁=>obj = .ref s.heap.objs.size∧s₁ = { s with heap:=s.heap.push { cls:=.type "dict",data:=.dict #[] } }) PySem.F.kt_called_dict (PySem.F.kt_typeCall_dict_1 _) PySem.F.entry_dict_init (kt_code_dict_new _ ⟨rfl,rfl⟩) ?_
  rintro obj s₁ ⟨rfl,rfl⟩
  have hnew:(s.heap.push { cls:=.type "dict",data:=.dict #[] }).DictOf knd s.heap.objs.size []:=Heap.DictOf.new s.heap
  refine ⟨hnew.typeIs,PySem.F.args_dict_init_2 _ _,?_⟩
  have hlt:l < s.heap.objs.size:=Heap.lt_size hlst
  have hl1:=Heap.get?_push_of_some { cls:=.type "dict",data:=.dict #[] } hlst
  unfold Builtin.«dict.__init__»
  refine wpAny_bind ?_
  unfold Builtin.Dict.selfAndRest
  refine wpAny_bind (wpAny_notOrdered_dict hnew.typeIs ?_)
  show wpAny _ _ (pure (s.heap.objs.size,[Value.ref l])) _ _ _
  refine wpAny_pure ?_
  show wpAny _ _ (Builtin.Dict.updateFrom "dict.__init__" s.heap.objs.size (.ref l) [] .none) _ _ _
  unfold Builtin.Dict.updateFrom
  refine wpAny_bind (wpAny_typeOf (T:="list") ⟨_,hl1,rfl⟩ ?_)
  rw [if_pos (by decide)]
  refine wpAny_bind (keys_none hl1 rfl rfl rfl (by exact hh) fun h2 tk2 e2 ne2=>?_)
  have k2:∀ b o,(s.heap.push { cls:=.type "dict",data:=.dict #[] }).get? b = some o→h2.get? b = some o:=fun b o e=>ne2.keeps b o e
  simp only [Option.isNone_none,if_true]
  refine wpAny_bind (wpAny_rule ?_)
  have hl2:h2.IsList l items.toArray:=⟨_,k2 _ _ hl1,rfl,_,rfl⟩
  refine wpAny_bind (wpAny_pyIter_list hl2 ?_)
  refine wpAny_pure ⟨plainId_quiet plain_loop _,?_⟩
  have hd2:(h2.push { cls:=.type "list_iterator",data:=.fields #[.ref l,.int 0 0] }).DictOf knd s.heap.objs.size []:=hnew.keep (fun b o e=>Heap.get?_push_of_some _ (k2 b o e))
  have sz:s.heap.objs.size < h2.objs.size:=by obtain ⟨_,_,_,e,_⟩:=hnew; exact Heap.lt_size (k2 _ _ e)
  have lt2:l < h2.objs.size:=Heap.lt_size (k2 _ _ hl1)
  refine loop (knd:=knd) (A:=A.in1) hh (Nat.ne_of_gt lt2) (Nat.ne_of_gt sz) (Nat.ne_of_gt hlt) ps.length 0 _ [] (by omega) ⟨_,Heap.get?_push_size _ rfl,rfl,rfl⟩ (hl2.push _) hd2
    ⟨hp.1,fun j k v e=>by
      obtain ⟨a,u,x1,⟨o,y1,y2⟩,x3⟩:=hp.2 j k v e
      exact ⟨a,u,x1,⟨o,Heap.get?_push_of_some _ (k2 _ _ (Heap.get?_push_of_some _ y1)),y2⟩,x3⟩⟩ (by simpa using hz) fun h3 tk hd3 k3=>?_
  rw [List.drop_zero] at hd3
  refine ⟨rfl,h h3 tk hd3 fun b o e=>?_⟩
  have hb:=Heap.lt_size e
  exact k3 b o (Nat.ne_of_lt hb) (Nat.ne_of_lt (Nat.lt_trans hb sz)) (Heap.get?_push_of_some _ (k2 _ _ (Heap.get?_push_of_some _ e)))
end
end DOf
namespace L2
open PySem PySem.Spec PyProof.Rows
def PrK (H:Hp) (ys:List V) (ps:List (Key × V)):Prop:=ys.length = ps.length∧∀ (i:Nat) (k:Key) (v:V),ps[i]? = some (k,v)→∃ t,ys[i]? = some (.ref t)∧H t = some (.tup [kV k,v])
abbrev rDictOf:List V→Hp→VK→Prop:=fun xs H Q=>∃ p ys ps,xs = [.ref p]∧H p = some (.lst ys)∧PrK H ys ps∧∀ d,H d = none→Q (.ref d) (upd H d (.dK (mergeK [] ps)))
theorem carried_all {P:Program} {w:World} {h:Heap}:∀ {ps:List (Key × V)} {items:List Value},items.length = ps.length→
    (∀ (i:Nat) (k:Key) (v:V),ps[i]? = some (k,v)→∃ a u x,items[i]? = some (.ref a)∧h.IsTuple a #[u,x]∧(mixKind P w).is k u = true∧RelV v x)→∃ rs,KV ps rs∧DOf.Pairs2 (mixKind P w) h items rs
  | [],[],_,_=>⟨[],.nil,rfl,fun j k v e=>by simp at e⟩
  | [],_ :: _,e,_=>by simp at e
  | _ :: _,[],e,_=>by simp at e
  | (k,v) :: ps,it :: items,e,h1=>by
    obtain ⟨rs,r1,r2,r3⟩:=carried_all (ps:=ps) (items:=items) (by simpa using e) fun i k' v' e'=>by simpa using h1 (i + 1) k' v' (by simpa using e')
    obtain ⟨a,u,x,x1,x2,x3,x4⟩:=h1 0 k v rfl
    refine ⟨(k,x) :: rs,.cons ⟨rfl,x4⟩ r1,by simp [r2],fun j k' v' e'=>?_⟩
    cases j with
    | zero=>
      simp at e'
      obtain ⟨rfl,rfl⟩:=e'
      exact ⟨a,u,x1,x2,x3⟩
    | succ j=>simpa using r3 j k' v' (by simpa using e')
theorem call_dictOf {X:Cx} (hc:X.calm = true):CallR X (.type "dict") rDictOf:=by
  intro pins s σ H xs us Q I r h
  obtain ⟨p,ys,ps,rfl,hH,⟨hl,hp⟩,q⟩:=h
  obtain ⟨u,rfl,ru⟩:=vals1 r
  cases ru
  obtain ⟨z,its,n,rv,hn,e⟩:=I.lstM hH
  have hlen:=rv.length
  obtain ⟨rs,k1,k2⟩:=carried_all (P:=X.prog) (w:=X.w) (h:=s.heap) (ps:=ps) (items:=its) (by omega) fun i k v e'=>by
    obtain ⟨t,e1,e2⟩:=hp i k v e'
    obtain ⟨u,hu,ru⟩:=rv.get e1
    cases ru
    obtain ⟨it2,rv2,p2,_⟩:=I.tuple (SqT.of e2)
    cases rv2 with
    | cons r1 rr=>
      cases rr with
      | cons r2 rr=>
        cases rr
        exact ⟨t,_,_,hu,p2,kV_is r1,r2⟩
  have hps:rs.length = ps.length:=k1.length.symm
  refine DOf.call_dict (knd:=mixKind X.prog X.w) (I.ok.hd hc) e k2 (by omega) fun h' tk hd kp=>?_
  have big:=I.big
  refine ⟨.ref s.heap.objs.size,_,I.laid (t':=tk) (o:=.dK (mergeK [] ps)) kp (Nat.le_refl _) ⟨?_,?_,merged [] rs,KV.merge k1 .nil,hd⟩,rfl,q _ (I.hok.fresh (Nat.le_refl _))⟩
  · have:=length_mergeK ps []
    simp at this
    omega
  · exact beq_eq_false_iff_ne.mpr (Nat.ne_of_gt big)
end L2
namespace KSrt
open PySem PySem.W PyProof.Rows
def run {α:Type} (c:Nat→Nat→Bool):KasT α→α
  | .ret a=>a
  | .ask i j k=>run c (k (c i j))
theorem run_bind {α β:Type} (c:Nat→Nat→Bool) (f:α→KasT β):∀ t:KasT α,run c (t.bind f) = run c (f (run c t))
  | .ret _=>rfl
  | .ask i j k=>run_bind c f (k (c i j))
variable {K:Nat→List Nat} {n:Nat}
def ky (K:Nat→List Nat) (p:Array Nat) (i:Nat):List Nat:=K (p.getD i 0)
def cm (K:Nat→List Nat) (i j:Nat):Bool:=decide (K i < K j)
structure Df (K:Nat→List Nat) (n:Nat) (p:Array Nat):Prop where
  size:p.size = n
  ne:∀ i j,i < n→j < n→i ≠ j→ky K p i ≠ ky K p j
def Up (K:Nat→List Nat) (p:Array Nat) (m:Nat):Prop:=∀ i j,i < j→j < m→ky K p i < ky K p j
def Dn (K:Nat→List Nat) (p:Array Nat) (m:Nat):Prop:=∀ i j,i < j→j < m→ky K p j < ky K p i
theorem tot {a b:List Nat} (h:¬ a < b) (ne:a ≠ b):b < a:=by
  by_cases z:b < a
  · exact z
  · exact absurd (List.le_antisymm (List.not_lt.mp z) (List.not_lt.mp h)) ne
theorem Up.more {p:Array Nat} {m:Nat} (h:Up K p m) (hl:∀ i,i < m→ky K p i < ky K p m):Up K p (m + 1):=fun i j hij hj=>by
  rcases Nat.eq_or_lt_of_le (Nat.le_of_lt_succ hj) with e | e
  · subst e; exact hl i hij
  · exact h i j hij e
theorem Up.last {p:Array Nat} {m:Nat} (hm:1 ≤ m) (h:Up K p m) (g:ky K p (m - 1) < ky K p m):Up K p (m + 1):=h.more fun i hi=>by
  rcases Nat.eq_or_lt_of_le (show i ≤ m - 1 by omega) with e | e
  · rw [e]; exact g
  · exact List.lt_trans (h i (m - 1) e (by omega)) g
theorem Dn.last {p:Array Nat} {m:Nat} (hm:1 ≤ m) (h:Dn K p m) (g:ky K p m < ky K p (m - 1)):Dn K p (m + 1):=fun i j hij hj=>by
  rcases Nat.eq_or_lt_of_le (Nat.le_of_lt_succ hj) with e | e
  · subst e
    rcases Nat.eq_or_lt_of_le (show i ≤ j - 1 by omega) with e | e
    · rw [e]; exact g
    · exact List.lt_trans g (h i (j - 1) e (by omega))
  · exact h i j hij e
theorem asc_run {p:Array Nat} (d:Df K n p):∀ f m,1 ≤ m→m + f ≤ n→Up K p m→∃ r,run (cm K) (kas_asc p f m) = r∧m ≤ r∧r ≤ m + f∧Up K p r∧(r < m + f→ky K p r < ky K p (r - 1))
  | 0,m,_,_,up=>⟨m,rfl,Nat.le_refl _,Nat.le_refl _,up,fun h=>by omega⟩
  | f + 1,m,hm,hf,up=>by
    show ∃ r,run (cm K) (if cm K (p.getD m 0) (p.getD (m - 1) 0) = true then .ret m else kas_asc p f (m + 1)) = r∧_
    by_cases h:ky K p m < ky K p (m - 1)
    · rw [if_pos (show cm K _ _ = true from decide_eq_true h)]
      exact ⟨m,rfl,Nat.le_refl _,by omega,up,fun _=>h⟩
    · rw [if_neg (by rw [show cm K (p.getD m 0) (p.getD (m - 1) 0) = false from decide_eq_false h]; decide)]
      obtain ⟨r,e,a1,a2,a3,a4⟩:=asc_run d f (m + 1) (by omega) (by omega) (up.last hm (tot h (d.ne m (m - 1) (by omega) (by omega) (by omega))))
      exact ⟨r,e,by omega,by omega,a3,fun z=>a4 (by omega)⟩
theorem desc_run {p:Array Nat} (d:Df K n p):∀ f m,1 ≤ m→m + f ≤ n→Dn K p m→∃ r,run (cm K) (kas_desc f p m 0) = (p,r,0)∧m ≤ r∧r ≤ m + f∧Dn K p r
  | 0,m,_,_,dn=>⟨m,rfl,Nat.le_refl _,Nat.le_refl _,dn⟩
  | f + 1,m,hm,hf,dn=>by
    show ∃ r,run (cm K) (if cm K (p.getD m 0) (p.getD (m - 1) 0) = true then (if 0 > 0 then kas_desc f (kas_rev p (m - (0 + 1)) m) (m + 1) 0 else kas_desc f p (m + 1) 0)
      else .ask (p.getD (m - 1) 0) (p.getD m 0) fun e=>if e = true then .ret (p,m,0) else kas_desc f p (m + 1) (0 + 1)) = (p,r,0)∧_
    by_cases h:ky K p m < ky K p (m - 1)
    · rw [if_pos (show cm K _ _ = true from decide_eq_true h),if_neg (by omega)]
      obtain ⟨r,e,a1,a2,a3⟩:=desc_run d f (m + 1) (by omega) (by omega) (dn.last hm h)
      exact ⟨r,e,by omega,by omega,a3⟩
    · rw [if_neg (by rw [show cm K (p.getD m 0) (p.getD (m - 1) 0) = false from decide_eq_false h]; decide)]
      show ∃ r,run (cm K) (if cm K (p.getD (m - 1) 0) (p.getD m 0) = true then .ret (p,m,0) else kas_desc f p (m + 1) (0 + 1)) = (p,r,0)∧_
      rw [if_pos (show cm K _ _ = true from decide_eq_true (tot h (d.ne m (m - 1) (by omega) (by omega) (by omega))))]
      exact ⟨m,rfl,Nat.le_refl _,by omega,dn⟩
theorem getD_of {p q:Array Nat} {i j:Nat} (h:p[i]? = q[j]?):p.getD i 0 = q.getD j 0:=by
  rw [Array.getD_eq_getD_getElem?,Array.getD_eq_getD_getElem?,h]
theorem ky_rev {p:Array Nat} {m:Nat} (hm:m ≤ p.size) (k:Nat):ky K (kas_rev p 0 m) k = if k < m then ky K p (m - 1 - k) else ky K p k:=by
  have e:=getElem?_mirror_all (i:=0) hm k
  unfold ky kas_rev
  by_cases h:k < m
  · rw [if_pos ⟨Nat.zero_le _,h⟩] at e
    rw [if_pos h,getD_of e,show 0 + m - 1 - k = m - 1 - k by omega]
  · rw [if_neg (fun z=>h z.2)] at e
    rw [if_neg h,getD_of e]
theorem Df.rev {p:Array Nat} {m:Nat} (d:Df K n p) (hm:m ≤ n):Df K n (kas_rev p 0 m) where
  size:=by unfold kas_rev; rw [mirror_size,d.size]
  ne:=fun i j hi hj hij=>by
    rw [ky_rev (by rw [d.size]; exact hm),ky_rev (by rw [d.size]; exact hm)]
    split <;> split <;> exact d.ne _ _ (by omega) (by omega) (by omega)
theorem Dn.rev {p:Array Nat} {m:Nat} (hm:m ≤ p.size) (h:Dn K p m):Up K (kas_rev p 0 m) m:=fun i j hij hj=>by
  rw [ky_rev hm,ky_rev hm,if_pos (by omega),if_pos hj]
  exact h _ _ (by omega) (by omega)
theorem count_run {p:Array Nat} (d:Df K n p) (hn:2 ≤ n):∃ r q,run (cm K) (kas_count n p) = (r,q)∧1 ≤ r∧r ≤ n∧Df K n q∧Up K q r∧q.Perm p:=by
  unfold kas_count
  rw [run_bind]
  obtain ⟨r,e,a1,a2,a3,a4⟩:=asc_run d (n - 1) 1 (Nat.le_refl _) (by omega) (fun i j h1 h2=>by omega)
  rw [e]
  by_cases h:r = n
  · rw [if_pos (by simpa using h)]
    exact ⟨r,p,rfl,a1,by omega,d,a3,Array.Perm.refl _⟩
  · rw [if_neg (by simpa using h)]
    by_cases h1:r > 1
    · rw [if_pos h1]
      show ∃ r' q,run (cm K) (if cm K (p.getD 0 0) (p.getD (r - 1) 0) = true then .ret (r,p) else kas_descPart r n (kas_rev p 0 r)) = (r',q)∧_
      rw [if_pos (show cm K _ _ = true from decide_eq_true (a3 0 (r - 1) (by omega) (by omega)))]
      exact ⟨r,p,rfl,a1,by omega,d,a3,Array.Perm.refl _⟩
    · rw [if_neg h1]
      have er:r = 1:=by omega
      subst er
      unfold kas_descPart
      rw [run_bind]
      obtain ⟨m,e2,b1,b2,b3⟩:=desc_run d (n - (1 + 1)) (1 + 1) (by omega) (by omega) (fun i j h1 h2=>by
        have e1:i = 0:=by omega
        have e2:j = 1:=by omega
        subst e1 e2
        exact a4 (by omega))
      rw [e2]
      show ∃ r q,run (cm K) (if 0 > 0 then _ else kas_tail3 m n p) = (r,q)∧_
      rw [if_neg (by omega)]
      unfold kas_tail3
      rw [run_bind]
      have hmn:m ≤ n:=by omega
      obtain ⟨r,e3,c1,c2,c3,_⟩:=asc_run (d.rev hmn) (n - m) m (by omega) (by omega) (b3.rev (by rw [d.size]; exact hmn))
      rw [e3]
      exact ⟨r,_,rfl,by omega,by omega,d.rev hmn,c3,mirror_perm _ _ _ _⟩
theorem place_run {p:Array Nat} {k:Nat} (d:Df K n p) (hk:k < n) (up:Up K p k):∀ f l r,l ≤ r→r ≤ k→r - l ≤ f→(∀ i,i < l→ky K p i < ky K p k)→(∀ i,r ≤ i→i < k→ky K p k < ky K p i)→
    ∃ l',run (cm K) (kas_place p k f l r) = l'∧l' ≤ k∧(∀ i,i < l'→ky K p i < ky K p k)∧∀ i,l' ≤ i→i < k→ky K p k < ky K p i
  | 0,l,r,h1,h2,h3,h4,h5=>⟨l,rfl,by omega,h4,fun i hi=>h5 i (by omega)⟩
  | f + 1,l,r,h1,h2,h3,h4,h5=>by
    unfold kas_place
    by_cases h:l ≥ r
    · rw [if_pos h]
      exact ⟨l,rfl,by omega,h4,fun i hi=>h5 i (by omega)⟩
    · rw [if_neg h]
      show ∃ l',run (cm K) (if cm K (p.getD k 0) (p.getD ((l + r) / 2) 0) = true then kas_place p k f l ((l + r) / 2) else kas_place p k f ((l + r) / 2 + 1) r) = l'∧_
      by_cases z:ky K p k < ky K p ((l + r) / 2)
      · rw [if_pos (show cm K _ _ = true from decide_eq_true z)]
        refine place_run d hk up f l ((l + r) / 2) (by omega) (by omega) (by omega) h4 fun i hi hik=>?_
        rcases Nat.eq_or_lt_of_le hi with e | e
        · rw [← e]; exact z
        · exact List.lt_trans z (up _ i e hik)
      · rw [if_neg (by rw [show cm K (p.getD k 0) (p.getD ((l + r) / 2) 0) = false from decide_eq_false z]; decide)]
        have g:=tot z (d.ne k ((l + r) / 2) hk (by omega) (by omega))
        refine place_run d hk up f ((l + r) / 2 + 1) r (by omega) h2 (by omega) (fun i hi=>?_) h5
        rcases Nat.eq_or_lt_of_le (Nat.le_of_lt_succ hi) with e | e
        · rw [e]; exact g
        · exact List.lt_trans (up i _ e (by omega)) g
theorem ky_bub {p:Array Nat} {k l:Nat} (hk:k < p.size) (hl:l ≤ k) (i:Nat):ky K (bubble p k (k - l)) i = if i = l then ky K p k else if l < i∧i ≤ k then ky K p (i - 1) else ky K p i:=by
  have e:=getElem?_bubble hk (k - l) (by omega) i
  rw [show k - (k - l) = l by omega] at e
  unfold ky
  by_cases h1:i = l
  · rw [if_pos h1] at e ⊢; rw [getD_of e]
  · rw [if_neg h1] at e ⊢
    by_cases h2:l < i∧i ≤ k
    · rw [if_pos h2] at e ⊢; rw [getD_of e]
    · rw [if_neg h2] at e ⊢; rw [getD_of e]
theorem bin_run:∀ f (p:Array Nat) k,Df K n p→k + f = n→Up K p k→∃ q,run (cm K) (kas_bin f p k) = q∧Df K n q∧Up K q n∧q.Perm p
  | 0,p,k,d,hk,up=>⟨p,rfl,d,by rw [← hk]; exact up,Array.Perm.refl _⟩
  | f + 1,p,k,d,hk,up=>by
    unfold kas_bin
    rw [run_bind]
    obtain ⟨l,e,a1,a2,a3⟩:=place_run d (show k < n by omega) up k 0 k (Nat.zero_le _) (Nat.le_refl _) (by omega) (fun i hi=>absurd hi (Nat.not_lt_zero _)) (fun i h1 h2=>by omega)
    rw [e]
    have hks:k < p.size:=by rw [d.size]; omega
    have d2:Df K n (bubble p k (k - l)):=⟨by rw [bubble_size,d.size],fun i j hi hj hij=>by
      rw [ky_bub hks a1,ky_bub hks a1]
      repeat' split
      all_goals first | (exfalso; omega) | exact d.ne _ _ (by omega) (by omega) (by omega)⟩
    have up2:Up K (bubble p k (k - l)) (k + 1):=fun i j hij hj=>by
      rw [ky_bub hks a1,ky_bub hks a1]
      repeat' split
      all_goals first | (exfalso; omega) | exact a2 _ (by omega) | exact a3 _ (by omega) (by omega) | exact up _ _ (by omega) (by omega)
    obtain ⟨q,e2,b1,b2,b3⟩:=bin_run f (bubble p k (k - l)) (k + 1) d2 (by omega) up2
    exact ⟨q,e2,b1,b2,b3.trans (bubble_perm _ _ _)⟩
theorem sort_run (hn:2 ≤ n) (inj:∀ i j,i < n→j < n→i ≠ j→K i ≠ K j):∃ q,run (cm K) (kas_sort n) = q∧Up K q n∧q.Perm (List.toArray (List.range n))∧q.size = n:=by
  have gd:∀ i,i < n→(List.toArray (List.range n)).getD i 0 = i:=fun i hi=>by simp [Array.getD,hi]
  have d:Df K n (List.toArray (List.range n)):=⟨by simp,fun i j hi hj hij=>by unfold ky; rw [gd i hi,gd j hj]; exact inj i j hi hj hij⟩
  unfold kas_sort
  rw [run_bind]
  obtain ⟨r,q,e,a1,a2,a3,a4,a5⟩:=count_run d hn
  rw [e]
  by_cases h:r < n
  · rw [if_pos h]
    obtain ⟨q2,e2,b1,b2,b3⟩:=bin_run (n - max r 1) q (max r 1) a3 (by omega) (by rw [Nat.max_eq_left a1]; exact a4)
    exact ⟨q2,e2,b2,b3.trans a5,b1.size⟩
  · rw [if_neg h]
    exact ⟨q,rfl,by rw [show n = r by omega]; exact a4,a5,a3.size⟩
def AR {α:Type} (P:Nat→Nat→Prop) (R:α→Prop):KasT α→Prop
  | .ret a=>R a
  | .ask i j k=>P i j∧∀ b,AR P R (k b)
theorem AR.bind {α β:Type} {P:Nat→Nat→Prop} {R:α→Prop} {R':β→Prop} {f:α→KasT β} (hf:∀ a,R a→AR P R' (f a)):∀ {t:KasT α},AR P R t→AR P R' (t.bind f)
  | .ret a,h=>hf a h
  | .ask i j k,h=>⟨h.1,fun b=>AR.bind hf (h.2 b)⟩
theorem wp_runA {α:Type} {P:Nat→Nat→Prop} {R:α→Prop} {c:Nat→Nat→Bool} {cmp:Nat→Nat→(Bool→Shared→Prop)→Shared→Prop} {J:Shared→Prop} (hc:∀ i j C s,P i j→J s→(∀ s',J s'→C (c i j) s')→cmp i j C s) {Q:α→Shared→Prop}:∀ (t:KasT α) (s:Shared),AR P R t→J s→(∀ s',J s'→Q (run c t) s')→t.kasWp cmp Q s
  | .ret a,s,_,hs,h=>h s hs
  | .ask i j k,s,ha,hs,h=>hc i j _ s ha.1 hs fun s' hs'=>wp_runA hc (k (c i j)) s' (ha.2 _) hs' h
def Bel (n:Nat) (p:Array Nat):Prop:=∀ m,p.getD m 0 < n
def Pn (n i j:Nat):Prop:=i < n∧j < n
theorem Bel.rev {p:Array Nat} (h:Bel n p) (i j:Nat) (hj:j ≤ p.size):Bel n (kas_rev p i j):=fun m=>by
  have e:=getElem?_mirror_all (i:=i) hj m
  unfold kas_rev
  split at e <;> (rw [getD_of e]; exact h _)
theorem Bel.bub {p:Array Nat} (h:Bel n p) {k d:Nat} (hk:k < p.size) (hd:d ≤ k):Bel n (bubble p k d):=fun m=>by
  have e:=getElem?_bubble hk d hd m
  split at e
  · rw [getD_of e]; exact h _
  · split at e <;> (rw [getD_of e]; exact h _)
theorem asc_ar {p:Array Nat} (h:Bel n p):∀ f m,m + f ≤ p.size→AR (Pn n) (fun r=>r ≤ p.size) (kas_asc p f m)
  | 0,m,hm=>hm
  | f + 1,m,hm=>⟨⟨h _,h _⟩,fun b=>by
    cases b with
    | true=>show AR _ _ (if true = true then _ else _); rw [if_pos rfl]; exact (show m ≤ p.size by omega)
    | false=>show AR _ _ (if false = true then _ else _); rw [if_neg Bool.false_ne_true]; exact asc_ar h f (m + 1) (by omega)⟩
theorem desc_ar:∀ f (p:Array Nat) m q,Bel n p→p.size = n→m + f ≤ n→AR (Pn n) (fun r=>Bel n r.1∧r.1.size = n∧r.2.1 ≤ n) (kas_desc f p m q)
  | 0,p,m,q,h,hs,hm=>⟨h,hs,by simpa using hm⟩
  | f + 1,p,m,q,h,hs,hm=>⟨⟨h _,h _⟩,fun b=>by
    cases b with
    | true=>
      show AR _ _ (if true = true then _ else _); rw [if_pos rfl]
      split
      · exact desc_ar f _ (m + 1) 0 (h.rev _ _ (by omega)) (by unfold kas_rev; rw [mirror_size,hs]) (by omega)
      · exact desc_ar f p (m + 1) 0 h hs (by omega)
    | false=>
      show AR _ _ (if false = true then _ else _); rw [if_neg Bool.false_ne_true]
      refine ⟨⟨h _,h _⟩,fun b=>?_⟩
      cases b with
      | true=>show AR _ _ (if true = true then _ else _); rw [if_pos rfl]; exact ⟨h,hs,show m ≤ n by omega⟩
      | false=>show AR _ _ (if false = true then _ else _); rw [if_neg Bool.false_ne_true]; exact desc_ar f p (m + 1) (q + 1) h hs (by omega)⟩
theorem tail_ar {p:Array Nat} {m:Nat} (h:Bel n p) (hs:p.size = n) (hm:m ≤ n):AR (Pn n) (fun r=>Bel n r.2∧r.2.size = n∧r.1 ≤ n) (kas_tail3 m n p):=by
  have h2:=h.rev 0 m (by omega)
  have hz:(kas_rev p 0 m).size = n:=by unfold kas_rev; rw [mirror_size,hs]
  unfold kas_tail3
  refine AR.bind (R:=fun r=>r ≤ (kas_rev p 0 m).size) (fun r hr=>?_) (asc_ar h2 (n - m) m (by omega))
  exact (⟨h2,hz,by rw [← hz]; exact hr⟩:Bel n (kas_rev p 0 m)∧(kas_rev p 0 m).size = n∧r ≤ n)
theorem descPart_ar {p:Array Nat} {m:Nat} (h:Bel n p) (hs:p.size = n) (hm:m < n):AR (Pn n) (fun r=>Bel n r.2∧r.2.size = n∧r.1 ≤ n) (kas_descPart m n p):=by
  unfold kas_descPart
  refine AR.bind (fun r hr=>?_) (desc_ar (n - (m + 1)) p (m + 1) 0 h hs (by omega))
  split
  · exact tail_ar (hr.1.rev _ _ (by omega)) (by unfold kas_rev; rw [mirror_size]; exact hr.2.1) hr.2.2
  · exact tail_ar hr.1 hr.2.1 hr.2.2
theorem count_ar {p:Array Nat} (h:Bel n p) (hs:p.size = n) (hn:2 ≤ n):AR (Pn n) (fun r=>Bel n r.2∧r.2.size = n∧r.1 ≤ n) (kas_count n p):=by
  unfold kas_count
  refine AR.bind (fun r hr=>?_) (asc_ar h (n - 1) 1 (by omega))
  by_cases e:r = n
  · rw [if_pos (by simpa using e)]
    exact ⟨h,hs,show r ≤ n by omega⟩
  · rw [if_neg (by simpa using e)]
    have hr2:r < n:=by have:r ≤ p.size:=hr; omega
    split
    · refine ⟨⟨h _,h _⟩,fun b=>?_⟩
      cases b with
      | true=>show AR _ _ (if true = true then _ else _); rw [if_pos rfl]; exact ⟨h,hs,show r ≤ n by omega⟩
      | false=>show AR _ _ (if false = true then _ else _); rw [if_neg Bool.false_ne_true]; exact descPart_ar (h.rev _ _ (by omega)) (by unfold kas_rev; rw [mirror_size,hs]) hr2
    · exact descPart_ar h hs hr2
theorem place_ar {p:Array Nat} {k:Nat} (h:Bel n p):∀ f l r,l ≤ k→r ≤ k→AR (Pn n) (fun l=>l ≤ k) (kas_place p k f l r)
  | 0,l,r,hl,hr=>hl
  | f + 1,l,r,hl,hr=>by
    unfold kas_place
    split
    · exact hl
    · refine ⟨⟨h _,h _⟩,fun b=>?_⟩
      cases b with
      | true=>show AR _ _ (if true = true then _ else _); rw [if_pos rfl]; exact place_ar h f l _ hl (by omega)
      | false=>show AR _ _ (if false = true then _ else _); rw [if_neg Bool.false_ne_true]; exact place_ar h f _ r (by omega) hr
theorem bin_ar:∀ f (p:Array Nat) k,Bel n p→p.size = n→k + f = n→AR (Pn n) (fun _=>True) (kas_bin f p k)
  | 0,p,k,_,_,_=>trivial
  | f + 1,p,k,h,hs,hk=>AR.bind (fun l hl=>bin_ar f _ (k + 1) (h.bub (by omega) (by omega)) (by rw [bubble_size,hs]) (by omega)) (place_ar h k 0 k (Nat.zero_le _) (Nat.le_refl _))
theorem sort_ar (hn:2 ≤ n):AR (Pn n) (fun _=>True) (kas_sort n):=by
  have h:Bel n (List.toArray (List.range n)):=fun m=>by
    by_cases z:m < n
    · simp [Array.getD,z]
    · simp [Array.getD,z]; omega
  unfold kas_sort
  refine AR.bind (fun r hr=>?_) (count_ar h (by simp) hn)
  split
  · rename_i z
    exact bin_ar _ _ _ hr.1 hr.2.1 (by omega)
  · trivial
end KSrt
namespace KSrt
open PySem PySem.W PyProof.Rows
def tx (l:List Nat):Str:=⟨l.toArray⟩
theorem tx_codes (l:List Nat):(tx l).cps.toList = l:=by simp [tx]
section
variable {prog:Program} {w:World} {A:Around} {E:Value→Shared→Prop} {s:Shared} {K U:Nat→List Nat} {vs:List Value}
def Tups (K U:Nat→List Nat) (h:Heap) (vs:List Value):Prop:=∀ i,i < vs.length→∃ b o t1 t2 c,vs[i]? = some (.ref b)∧h.get? b = some o∧o.cls = .type "tuple"∧o.data = .seq #[.str (tx (K i)) t1,.str (tx (U i)) t2] c
theorem tups_kat:∀ {vs:List Value} {K U:Nat→List Nat} {h:Heap},Tups K U h vs→∃ fs,KatTups h vs fs∧fs.length = vs.length∧∀ f ∈ fs,∃ x t,f = Value.str x t
  | [],_,_,_,_=>⟨[],trivial,rfl,fun f h=>(nomatch h)⟩
  | v :: vs,K,U,h,t=>by
    obtain ⟨b,o,t1,t2,c,e1,e2,e3,e4⟩:=t 0 (by simp)
    obtain ⟨fs,a1,a2,a3⟩:=tups_kat (vs:=vs) (K:=fun i=>K (i + 1)) (U:=fun i=>U (i + 1)) (h:=h) fun i hi=>by simpa using t (i + 1) (by simpa using hi)
    have e:v = .ref b:=by simpa using e1
    subst e
    refine ⟨.str (tx (K 0)) t1 :: fs,.cons e2 e3 e4 rfl a1,by simp [a2],fun f hf=>?_⟩
    rcases List.mem_cons.mp hf with rfl | hf
    · exact ⟨_,_,rfl⟩
    · exact a3 f hf
theorem ask {h3:Heap} (ht:Tups K U s.heap vs) (h64:vs.length ≤ 100) {i j:Nat} (hi:i < vs.length) (hj:j < vs.length) (hne:∀ i j,i < vs.length→j < vs.length→i ≠ j→K i ≠ K j) {C:Bool→Shared→Prop} (q:C (cm K i j) s):kas_ask prog w A (tuples' true) vs i j C s:=by
  obtain ⟨b,o,t1,t2,c,e1,e2,e3,e4⟩:=ht i hi
  obtain ⟨b',o',u1,u2,c',f1,f2,f3,f4⟩:=ht j hj
  unfold kas_ask
  rw [show vs.getD i Value.none = .ref b by rw [List.getD_eq_getElem?_getD,e1]; rfl,show vs.getD j Value.none = .ref b' by rw [List.getD_eq_getElem?_getD,f1]; rfl]
  refine kat_lt e2 e4 f2 f4 ?_
  refine kat_cons (SeqAt.EqAt.str_str (tx (K i)) t1 (tx (K j)) u1 _ _ _ _ ?_)
  by_cases hij:i = j
  · subst hij
    rw [show ((tx (K i)) == (tx (K i))) = true from beq_self_eq_true _]
    refine kat_yes (kat_cons (SeqAt.EqAt.str_str (tx (U i)) t2 (tx (U i)) u2 _ _ _ _ ?_))
    rw [show ((tx (U i)) == (tx (U i))) = true from beq_self_eq_true _]
    rw [show cm K i i = false from decide_eq_false (List.lt_irrefl _)] at q
    exact kat_yes (kat_nil q)
  · rw [show ((tx (K i)) == (tx (K j))) = false from beq_eq_false_iff_ne.mpr fun z=>hne i j hi hj hij (by rw [← tx_codes (K i),z,tx_codes])]
    refine kat_no (oneLt_str ?_)
    rw [tx_codes,tx_codes]
    exact q
theorem tup_sort {a:Addr} {n:Nat} {P:PySem.Fin→Shared→Prop} (ho:s.heap.get? a = some (seqObj "list" vs.toArray n)) (ht:Tups K U s.heap vs) (hne:∀ i j,i < vs.length→j < vs.length→i ≠ j→K i ≠ K j) (h64:vs.length < 64)
    (h:∀ (q:Array Nat) (h':Heap) (e:Nat),q.size = vs.length→q.Perm (List.toArray (List.range vs.length))→Up K q vs.length→(∀ b o,b ≠ a→s.heap.get? b = some o→h'.get? b = some o)→h'.get? a = some (seqObj "list" (List.toArray (q.toList.map fun i=>vs.getD i Value.none)) e)→P (.done (.ret .none)) { s with heap:=h' }) :
    wpAny (model prog w) A (Builtin.«list.sort» ⟨[.ref a],[]⟩) P E s:=by
  have ha:a < s.heap.objs.size:=Heap.lt_size ho
  have s1:=Heap.SameBut.update s.heap a (Obj.mapSeq fun _=>(#[]:Array Value))
  obtain ⟨e1,ho1⟩:∃ e1,(s.heap.update a (Obj.mapSeq fun _=>(#[]:Array Value))).get? a = some (seqObj "list" #[] e1):=⟨_,get?_update_seq ho fun _=>#[]⟩
  have keep:∀ b o,b ≠ a→s.heap.get? b = some o→(((s.heap.update a (Obj.mapSeq fun _=>(#[]:Array Value))).push (seqObj "tuple" vs.toArray 0)).push (seqObj "list" #[] 0)).get? b = some o:=fun b o hb e=>Heap.get?_push_of_some _ (Heap.get?_push_of_some _ ((s1.2 b hb).trans e))
  have ho6:(((s.heap.update a (Obj.mapSeq fun _=>(#[]:Array Value))).push (seqObj "tuple" vs.toArray 0)).push (seqObj "list" #[] 0)).get? a = some (seqObj "list" #[] e1):=Heap.get?_push_of_some _ (Heap.get?_push_of_some _ ho1)
  have ht6:Tups K U (((s.heap.update a (Obj.mapSeq fun _=>(#[]:Array Value))).push (seqObj "tuple" vs.toArray 0)).push (seqObj "list" #[] 0)) vs:=fun i hi=>by
    obtain ⟨b,o,t1,t2,c,x1,x2,x3,x4⟩:=ht i hi
    refine ⟨b,o,t1,t2,c,x1,keep b o (fun z=>?_) x2,x3,x4⟩
    subst z
    rw [ho] at x2
    cases x2
    injection x3 with x3
    exact absurd x3 (by decide)
  rw [list_sort_plain]
  refine wpAny_bind (listItems_at ho rfl ?_)
  refine wpAny_bind (listUpdate_at ho rfl ?_ (by rw [List.size_toArray,sizeLine_eq]; omega) (Nat.zero_le _))
  refine wpAny_bind (seqEpoch_at ho1 rfl ?_)
  refine wpAny_bind (wpAny_newTuple ?_ (by show vs.length ≤ _; rw [sizeLine_eq]; omega))
  refine wpAny_bind (wpAny_newList ?_ (Nat.zero_le _))
  refine wpAny_holding ?_
  show wpAny (model prog w) A _ P E { s with heap:=((s.heap.update a (Obj.mapSeq fun _=>(#[]:Array Value))).push (seqObj "tuple" vs.toArray 0)).push (seqObj "list" #[] 0) }
  generalize ((s.heap.update a (Obj.mapSeq fun _=>(#[]:Array Value))).push (seqObj "tuple" vs.toArray 0)).push (seqObj "list" #[] 0) = B at keep ho6 ht6 ⊢
  dsimp only
  by_cases h2:vs.toArray.size < 2
  · rw [if_pos h2,if_pos h2]
    refine wpAny_bind (wpAny_pure ?_)
    rw [StateT.run_pure]
    refine wpAny_bind (wpAny_pure ?_)
    dsimp only
    refine wpAny_bind (seqEpoch_at ho6 rfl ?_)
    refine wpAny_bind (listUpdate_at ho6 rfl ?_ (hsz2:=by rw [Array.size_map]; show (pairsOf vs).size ≤ _; rw [pairsOf_size,sizeLine_eq]; omega))
    simp only [bne_self_eq_false,Bool.false_eq_true,if_false]
    rw [List.size_toArray] at h2
    have s2:=Heap.SameBut.update B a (Obj.mapSeq fun _=>(arrOf (SortSt.mk' general' (vs.toArray.zip vs.toArray) #[] 7 none)).map (·.2))
    obtain ⟨c2,hc2⟩:∃ c2,(B.update a (Obj.mapSeq fun _=>(arrOf (SortSt.mk' general' (vs.toArray.zip vs.toArray) #[] 7 none)).map (·.2))).get? a = some (seqObj "list" ((arrOf (SortSt.mk' general' (vs.toArray.zip vs.toArray) #[] 7 none)).map (·.2)) c2):=⟨_,get?_update_seq ho6 fun _=>(arrOf (SortSt.mk' general' (vs.toArray.zip vs.toArray) #[] 7 none)).map (·.2)⟩
    have e1:(arrOf (SortSt.mk' general' (vs.toArray.zip vs.toArray) #[] 7 none)).map (·.2) = List.toArray ((List.toArray (List.range vs.length)).toList.map fun i=>vs.getD i Value.none):=by
      apply Array.toList_inj.mp
      show ((vs.toArray.zip vs.toArray).map (·.2)).toList = _
      rw [Array.toList_map,Array.toList_zip]
      show (vs.zip vs).map (·.2) = (List.range vs.length).map fun i=>vs.getD i Value.none
      apply List.ext_getElem
      · simp
      · intro i h1 h3
        simp at h1
        simp [h1]
    exact wpAny_pure (h (List.toArray (List.range vs.length)) _ c2 (by simp) (Array.Perm.refl _) (fun i j h1 h3=>by omega) (fun b o hb e=>(s2.2 b hb).trans (keep b o hb e)) (hc2.trans (by rw [e1])))
  · rw [if_neg h2,if_neg h2]
    rw [List.size_toArray] at h2
    obtain ⟨fs,k1,k2,k3⟩:=tups_kat ht6
    refine wpAny_bind (kat_kind (s:={ s with heap:=B }) (T:=.type "str") k1 (by omega) (fun f hf=>by obtain ⟨x,t,rfl⟩:=k3 f hf; exact Looks.of_pure rfl) (by decide) ?_)
    rw [show tuples' ((Value.type "str") != Value.type "tuple") = tuples' true from rfl]
    obtain ⟨q,eq,q1,q2,q3⟩:=sort_run (K:=K) (n:=vs.length) (by omega) hne
    have hk:(kas_sort vs.length).kasWp (kas_ask prog w A (tuples' true) vs) (fun p s'=>p = q∧s' = { s with heap:=B }) { s with heap:=B }:=
      wp_runA (P:=Pn vs.length) (c:=cm K) (J:=fun s'=>s' = { s with heap:=B }) (fun i j C s' hp hs' hC=>by
        subst hs'
        exact ask (s:={ s with heap:=B }) (h3:=B) ht6 (by omega) hp.1 hp.2 hne (hC _ rfl)) _ _ (sort_ar (by omega)) rfl fun s' hs'=>⟨eq,hs'⟩
    refine wpAny_bind (wpAny_mono (kat_run (Q:=fun st' s'=>arrOf st' = q.map (kas_item (vs.toArray.zip vs.toArray))∧failedOf st' = none∧s' = { s with heap:=B })
      rfl (by omega) h64 (fun p' st' s' a1 a2 a3 a4=>by obtain ⟨rfl,rfl⟩:=a4; exact ⟨a2,a3,rfl⟩) hk) ?_ fun _ _ e=>e)
    rintro ⟨⟨⟩,st'⟩ s' ⟨har,hf,rfl⟩
    dsimp only
    have hout:=kat_snds rfl har
    have hsz:(List.toArray (q.toList.map fun i=>vs.getD i Value.none)).size = vs.length:=by rw [List.size_toArray,List.length_map,Array.length_toList,q3]
    rw [hout]
    have s2:=Heap.SameBut.update B a (Obj.mapSeq fun _=>List.toArray (q.toList.map fun i=>vs.getD i Value.none))
    obtain ⟨c2,hc2⟩:∃ c2,(B.update a (Obj.mapSeq fun _=>List.toArray (q.toList.map fun i=>vs.getD i Value.none))).get? a = some (seqObj "list" (List.toArray (q.toList.map fun i=>vs.getD i Value.none)) c2):=⟨_,get?_update_seq ho6 fun _=>List.toArray (q.toList.map fun i=>vs.getD i Value.none)⟩
    refine wpAny_bind (seqEpoch_at ho6 rfl ?_)
    refine wpAny_bind (listUpdate_at ho6 rfl ?_ (Nat.zero_le _) (Nat.le_trans (Nat.le_of_eq hsz) (by rw [sizeLine_eq]; omega)))
    rw [hf]
    simp only [bne_self_eq_false,Bool.false_eq_true,if_false]
    exact wpAny_pure (h q _ c2 q3 q2 q1 (fun b o hb e=>(s2.2 b hb).trans (keep b o hb e)) hc2)
theorem sortedI {κ:Type} [DecidableEq κ] {knd:PySem.KeyKind prog w κ} {r d:Addr} {kvs:List (κ × Value)} {ep:Nat} {Q:Value→Shared→Prop} (hh:A.handled = none) (hv:s.heap.IsItemsView r d) (hm:s.heap.DictAt knd d kvs ep) (h64:kvs.length < 64)
    (hK:∀ (i:Nat) (k:κ) (v u:Value),kvs[i]? = some (k,v)→knd.is k u = true→(∃ t,u = Value.str (tx (K i)) t)∧∃ t,v = Value.str (tx (U i)) t) (hne:∀ i j,i < kvs.length→j < kvs.length→i ≠ j→K i ≠ K j)
    (h:∀ (h1 h':Heap) (tk:Nat) (q:Array Nat) (e:Nat) (vs:List Value),(∀ b o,s.heap.get? b = some o→h1.get? b = some o)→vs.length = kvs.length→q.size = kvs.length→q.Perm (List.toArray (List.range kvs.length))→Up K q kvs.length→Tups K U h1 vs→
      (∀ b o,h1.get? b = some o→h'.get? b = some o)→h'.get? h1.objs.size = some (seqObj "list" (List.toArray (q.toList.map fun i=>vs.getD i Value.none)) e)→(∀ (i:Nat) (b:Addr),vs[i]? = some (Value.ref b)→s.heap.objs.size ≤ b)→Q (.ref h1.objs.size) { s with heap:=h',toks:=tk }) :
    wpAny (model prog w) A (call (.builtin "sorted") [.ref r]) Q E s:=by
  have hn:kvs.length ≤ sizeLine:=by rw [sizeLine_eq]; omega
  refine Calls.call_function_entry kind_sorted plain_sorted entry_sorted (args_sorted1 _) ?_
  unfold Builtin.«sorted»
  refine wpAny_bind (m:=checkCount "sorted" 1 1 _) (wpAny_pure ?_)
  refine wpAny_bind (kdx_collect (A:=A.in1) (knd:=knd) hh hv hm hn fun h1 tk as hk hl hG=>?_)
  have hlen:(as.map Value.ref).length = kvs.length:=by rw [List.length_map,hl]
  refine wpAny_bind (wpAny_newList ?_ (by rw [hlen]; exact hn))
  have ht:Tups K U h1 (as.map Value.ref):=fun i hi=>by
    rw [List.length_map] at hi
    have ea:as[i]? = some as[i]:=List.getElem?_eq_getElem hi
    obtain ⟨key,k,x,x1,x2,x3⟩:=hG.pairs i _ ea
    obtain ⟨⟨t1,e1⟩,t2,e2⟩:=hK i k x key x1 x2
    subst e1 e2
    exact ⟨as[i],_,t1,t2,_,by rw [List.getElem?_map,ea]; rfl,x3,rfl,rfl⟩
  have ho : (h1.push { cls := .type "list", data := .seq (as.map Value.ref).toArray }).get? h1.objs.size = some (seqObj "list" (as.map Value.ref).toArray 0) := Heap.get?_push_size _ rfl
  have ht2:Tups K U (h1.push { cls:=.type "list",data:=.seq (as.map Value.ref).toArray }) (as.map Value.ref):=fun i hi=>by
    obtain ⟨b,o,t1,t2,c,x1,x2,x3,x4⟩:=ht i hi
    exact ⟨b,o,t1,t2,c,x1,Heap.get?_push_of_some _ x2,x3,x4⟩
  refine wpAny_bind (wpAny_holding (wpAny_call_entry slot_list_sort ⟨_,ho,rfl⟩ entry_list_sort (tup_sort (s:={ s with heap:=h1.push { cls:=.type "list",data:=.seq (as.map Value.ref).toArray },toks:=tk }) (K:=K) (U:=U) ho ht2 (by rw [hlen]; exact hne) (by rw [hlen]; exact h64) fun q h' e q1 q2 q3 kp hc=>⟨_,rfl,?_⟩) (args_list_sort _)))
  rw [hlen] at q1 q2 q3
  refine wpAny_pure ⟨_,rfl,h h1 h' tk q e _ hk hlen q1 q2 q3 ht (fun b o hb=>kp b o (Nat.ne_of_lt (Heap.lt_size hb)) (Heap.get?_push_of_some _ hb)) hc fun i b hb=>?_⟩
  rw [List.getElem?_map] at hb
  obtain ⟨a,ha,e⟩:=Option.map_eq_some_iff.mp hb
  cases e
  exact Nat.le_of_lt (hG.above _ (List.mem_of_getElem? ha))
end
end KSrt
namespace L2
open PySem PySem.Spec PyProof.Rows
section
variable {X:Cx} {pins:List (Addr × Obj)} {σ:St} {H H':Hp} {s:Shared} {h':Heap}
theorem ObjOk.there {P:Program} {w:World} {h:Heap} {a:Addr} {o:HO} (x:ObjOk P w H h a o):∃ ob,h.get? a = some ob:=by
  cases o with
  | lst xs=>obtain ⟨_,_,_,_,e⟩:=x; exact ⟨_,e⟩
  | tup xs=>obtain ⟨_,_,_,_,e,_⟩:=x; exact ⟨_,e⟩
  | dK kvs=>obtain ⟨_,_,_,_,_,_,_,e,_⟩:=x; exact ⟨_,e⟩
  | dT kvs=>obtain ⟨_,_,_,_,_,_,_,e,_⟩:=x; exact ⟨_,e⟩
  | set S n=>obtain ⟨_,_,_,_,e,_⟩:=x; exact ⟨_,e⟩
  | ins C dx fs=>obtain ⟨_,_,_,e,_⟩:=x; exact ⟨_,e⟩
  | own y=>obtain ⟨_,e⟩:=x; exact ⟨_,e⟩
  | xd fs=>obtain ⟨_,⟨_,_,_,e,_⟩,_⟩:=x; exact ⟨_,e⟩
  | met f y=>exact ⟨_,x⟩
  | rng lo hi=>obtain ⟨_,_,_,e⟩:=x; exact ⟨_,e⟩
  | frz ob u=>obtain ⟨e,_⟩:=x; exact ⟨_,e⟩
  | tbl ps=>exact ⟨_,x⟩
  | ext φ=>obtain ⟨_,e,_⟩:=x; exact e
theorem Inv.laids {t':Nat} (I:Inv X pins σ H s) (k:∀ b u,s.heap.get? b = some u→h'.get? b = some u) (old:∀ b o,s.heap.get? b = some o→H' b = H b) (new:∀ b o,s.heap.get? b = none→H' b = some o→ObjOk X.prog X.w H' h' b o) :
    Inv X pins σ H' { s with heap:=h',toks:=t' }:=by
  have J:=I.kept (t':=t') k
  have sm:∀ {b:Addr} {o:HO},H b = some o→H' b = some o:=fun {b o} e=>by
    obtain ⟨ob,q⟩:=(I.hok b o e).there
    exact (old b ob q).trans e
  refine ⟨J.ok,J.os,J.bare,⟨J.base.keep,J.base.slot,fun b ob e n hx=>?_,J.base.there,fun b xs e=>sm (J.base.tups b xs e),fun b ob u e=>sm (J.base.frzs b ob u e),fun b ps e=>?_⟩,J.loc,J.cell,?_,fun x c e=>?_,fun p hp=>?_,fun b u e=>?_,J.len⟩
  · obtain ⟨o',q⟩:=I.base.there b ob e hx
    rw [old b o' q]
    exact J.base.free b ob e n hx
  · obtain ⟨more,q⟩:=J.base.tbls b ps e
    exact ⟨more,sm q⟩
  · obtain ⟨m,⟨o,es,ep,q,_⟩,_⟩:=I.loc
    rw [old _ _ q]; exact I.free
  · obtain ⟨v,o,q,_⟩:=I.cell x c e
    rw [old _ _ q]; exact I.freeC x c e
  · obtain ⟨a,b,c⟩:=I.pin p hp
    exact ⟨k _ _ a,by rw [old _ _ a]; exact b,c⟩
  · cases q:s.heap.get? b with
    | some ob=>
      rw [old b ob q] at e
      exact (J.hok b u e).stay (fun _ _ _ q=>q) (fun c q=>sm q) fun c xs q=>sm q
    | none=>exact new b u q e
def viewO (v d:Addr):HO:=.ext fun h=>h.IsItemsView v d
abbrev rItems:V→List V→Hp→VK→Prop:=fun x xs H Q=>∃ a kvs,x = .ref a∧xs = []∧H a = some (.dK kvs)∧∀ v,H v = none→Q (.ref v) (upd H v (viewO v a))
theorem mt_items:MtR X "dict.items" rItems:=by
  intro pins s σ H x xs v us Q I rx rv h
  obtain ⟨a,kvs,rfl,rfl,hH,q⟩:=h
  cases rx
  have hus:=rv.zero
  subst hus
  obtain ⟨z,hd,vs,rel,dd⟩:=dk_of I.hok hH
  refine call_meetsIn PySem.F.slot_dict_items dd.typeIs PySem.F.entry_dict_items (PySem.F.args_dict_items_1 _) (meets_dict_items (mixKind X.prog X.w) a hd) ⟨⟨vs,dd⟩,?_⟩
  have hv:(s.heap.push { cls:=.type "dict_items",data:=.fields #[.ref a] }).IsItemsView s.heap.objs.size a:=⟨_,Heap.get?_push_size _ rfl,rfl,rfl⟩
  refine ⟨.ref s.heap.objs.size,_,I.laid (t':=s.toks) (o:=viewO s.heap.objs.size a) (fun b o e=>Heap.get?_push_of_some _ e) (Nat.le_refl _) ⟨hv,⟨_,Heap.get?_push_size _ rfl⟩,fun h1 h2 x k=>?_⟩,rfl,q _ (I.hok.fresh (Nat.le_refl _))⟩
  obtain ⟨o,e,r⟩:=x
  exact ⟨o,k o e,r⟩
abbrev rSortedI:List V→Hp→VK→Prop:=fun xs H Q=>∃ v a,∃ kvs:List (List Nat × List Nat),xs = [.ref v]∧H v = some (viewO v a)∧H a = some (.dK (kvs.map fun kv=>(Key.inr (txt kv.1),strV kv.2)))∧kvs.length < 64∧(kvs.map (·.1)).Nodup∧
  ∀ H' l ys (zs:List (List Nat × List Nat)),Same H H'→H l = none→H' l = some (.lst ys)→zs.Perm kvs→(zs.map (·.1)).Pairwise (· < ·)→ys.length = zs.length→(∀ (i:Nat) kv,zs[i]? = some kv→∃ t,ys[i]? = some (.ref t)∧H' t = some (.tup [strV kv.1,strV kv.2])∧H t = none)→Q (.ref l) H'
theorem KV.geti {kvs:List (Key × V)} {vs:List (Key × Value)} (r:KV kvs vs):∀ {i:Nat} {k:Key} {u:Value},vs[i]? = some (k,u)→∃ v,kvs[i]? = some (k,v)∧RelV v u:=by
  induction r with
  | nil=>intro i k v e; simp at e
  | @cons p q ps qs h t ih=>
    intro i k u e
    cases i with
    | zero=>
      simp at e
      subst e
      obtain ⟨p1,p2⟩:=p
      have h1:p1 = k:=h.1
      subst h1
      exact ⟨p2,rfl,h.2⟩
    | succ i=>exact ih (by simpa using e)
def adr (vs:List Value) (j:Nat):Addr:=match vs[j]? with | some (.ref b)=>b | _=>0
theorem call_sortedI (hc:X.calm = true):CallR X (.builtin "sorted") rSortedI:=by
  intro pins s σ H xs us Q I r h
  obtain ⟨v,a,kvs,rfl,hV,hH,h64,hnd,q⟩:=h
  obtain ⟨u,rfl,ru⟩:=vals1 r
  cases ru
  obtain ⟨z,hd,vs,rel,dd⟩:=dk_of I.hok hH
  obtain ⟨ep,da⟩:=dd.dictAt
  have hl:=rel.length
  rw [List.length_map] at hl
  have hv:s.heap.IsItemsView v a:=(show ObjOk X.prog X.w H s.heap v (viewO v a) from I.hok v _ hV).1
  have hin:∀ i j,i < vs.length→j < vs.length→i ≠ j→(kvs.getD i ([],[])).1 ≠ (kvs.getD j ([],[])).1:=fun i j hi hj hij e=>by
    rw [List.getD_eq_getElem?_getD,List.getD_eq_getElem?_getD,List.getElem?_eq_getElem (by omega),List.getElem?_eq_getElem (by omega)] at e
    have pw:=List.pairwise_iff_getElem.mp hnd
    rcases Nat.lt_or_ge i j with w | w
    · exact pw i j (by rw [List.length_map]; omega) (by rw [List.length_map]; omega) w (by rw [List.getElem_map,List.getElem_map]; exact e)
    · exact pw j i (by rw [List.length_map]; omega) (by rw [List.length_map]; omega) (by omega) (by rw [List.getElem_map,List.getElem_map]; exact e.symm)
  refine KSrt.sortedI (K:=fun i=>(kvs.getD i ([],[])).1) (U:=fun i=>(kvs.getD i ([],[])).2) (I.ok.hd hc) hv da (by omega) (fun i k v u e hk=>?_) hin fun h1 h' tk p e ws k1 l1 p1 p2 p3 tp k2 hg ab=>?_
  · obtain ⟨v',e1,rv⟩:=rel.geti e
    rw [List.getElem?_map] at e1
    obtain ⟨kv,e2,e3⟩:=Option.map_eq_some_iff.mp e1
    cases e3
    rw [List.getD_eq_getElem?_getD,e2]
    exact ⟨key_rel hk,rv⟩
  · have tb:∀ j,j < ws.length→∃ o t1 t2 c,ws[j]? = some (.ref (adr ws j))∧h1.get? (adr ws j) = some o∧o.cls = .type "tuple"∧o.data = .seq #[.str (txt (kvs.getD j ([],[])).1) t1,.str (txt (kvs.getD j ([],[])).2) t2] c:=fun j hj=>by
      obtain ⟨b,o,t1,t2,c,x1,x2,x3,x4⟩:=tp j hj
      have eb:adr ws j = b:=by unfold adr; rw [x1]
      exact ⟨o,t1,t2,c,by rw [eb]; exact x1,by rw [eb]; exact x2,x3,x4⟩
    have one:∀ i j,i < ws.length→j < ws.length→adr ws i = adr ws j→i = j:=fun i j hi hj e=>by
      obtain ⟨o,t1,t2,c,x1,x2,x3,x4⟩:=tb i hi
      obtain ⟨o',u1,u2,c',y1,y2,y3,y4⟩:=tb j hj
      rw [e,y2] at x2
      cases x2
      rw [x4] at y4
      by_cases hij:i = j
      · exact hij
      · refine absurd ?_ (hin i j (by omega) (by omega) hij)
        injection y4 with y4 _
        have y5:=congrArg (fun a:Array Value=>a[0]?) y4
        simp at y5
        exact txt_inj.mp y5.1
    have lows:∀ j,j < ws.length→s.heap.objs.size ≤ adr ws j∧adr ws j < h1.objs.size:=fun j hj=>by
      obtain ⟨o,t1,t2,c,x1,x2,x3,x4⟩:=tb j hj
      exact ⟨ab j _ x1,Heap.lt_size x2⟩
    have hpl:p.toList.Perm (List.range vs.length):=by simpa using p2.toList
    have plt:∀ i ∈ p.toList,i < vs.length:=fun i hi=>List.mem_range.mp (hpl.mem_iff.mp hi)
    let KU:=fun j=>kvs.getD j ([],[])
    let ys:=p.toList.map fun i=>V.ref (adr ws i)
    let Hn:Hp:=fun b=>if (s.heap.get? b).isSome = true then H b else if b = h1.objs.size then some (.lst ys) else ((List.range ws.length).find? fun j=>decide (adr ws j = b)).map fun j=>.tup [strV (KU j).1,strV (KU j).2]
    have nbl:s.heap.get? h1.objs.size = none:=by
      cases w:s.heap.get? h1.objs.size with
      | none=>rfl
      | some o=>exact absurd (Heap.lt_size (k1 _ _ w)) (Nat.lt_irrefl _)
    have nad:∀ j,j < ws.length→s.heap.get? (adr ws j) = none:=fun j hj=>Heap.get?_none_of_le (lows j hj).1
    have hHl:Hn h1.objs.size = some (.lst ys):=by
      show (if (s.heap.get? h1.objs.size).isSome = true then _ else _) = _
      rw [nbl,if_neg (by decide),if_pos rfl]
    have hHt:∀ j,j < ws.length→Hn (adr ws j) = some (.tup [strV (KU j).1,strV (KU j).2]):=fun j hj=>by
      show (if (s.heap.get? (adr ws j)).isSome = true then _ else _) = _
      rw [nad j hj,if_neg (by decide),if_neg (Nat.ne_of_lt (lows j hj).2)]
      cases w:(List.range ws.length).find? fun i=>decide (adr ws i = adr ws j) with
      | none=>
        have:=List.find?_eq_none.mp w j (List.mem_range.mpr hj)
        simp at this
      | some i=>
        have h1':=List.find?_some w
        have h2':=List.mem_range.mp (List.mem_of_find?_eq_some w)
        have:=one i j h2' hj (of_decide_eq_true h1')
        subst this
        rfl
    have nH:∀ b,s.heap.get? b = none→H b = none:=fun b w=>by
      cases w2:H b with
      | none=>rfl
      | some u=>obtain ⟨ob,w3⟩:=(I.hok b u w2).there; rw [w] at w3; cases w3
    have fin:Inv X pins σ Hn { s with heap:=h',toks:=tk }:=by
      refine I.laids (fun b o e=>k2 b o (k1 b o e)) (fun b o e=>?_) fun b o e w=>?_
      · show (if (s.heap.get? b).isSome = true then _ else _) = _
        rw [e,if_pos (show (some o).isSome = true from rfl)]
      · have w':(if (s.heap.get? b).isSome = true then H b else if b = h1.objs.size then some (.lst ys) else ((List.range ws.length).find? fun j=>decide (adr ws j = b)).map fun j=>.tup [strV (KU j).1,strV (KU j).2]) = some o:=w
        rw [e,if_neg (by decide)] at w'
        by_cases z1:b = h1.objs.size
        · rw [if_pos z1] at w'
          cases w'
          subst z1
          refine ⟨?_,p.toList.map fun i=>ws.getD i Value.none,_,?_,by simpa [seqObj] using hg⟩
          · show (p.toList.map _).length ≤ _
            rw [List.length_map,Array.length_toList,p1,sizeLine_eq]
            omega
          · have gen:∀ l:List Nat,(∀ i ∈ l,i < vs.length)→Vals (l.map fun i=>V.ref (adr ws i)) (l.map fun i=>ws.getD i Value.none):=fun l=>by
              induction l with
              | nil=>intro _; exact .nil
              | cons i l ih=>
                intro hl'
                refine .cons ?_ (ih fun j hj=>hl' j (List.mem_cons_of_mem _ hj))
                obtain ⟨o,t1,t2,c,x1,_⟩:=tb i (by rw [l1]; exact hl' i List.mem_cons_self)
                show ws.getD i Value.none = Value.ref (adr ws i)
                rw [List.getD_eq_getElem?_getD,x1]
                rfl
            exact gen p.toList plt
        · rw [if_neg z1] at w'
          obtain ⟨j,w3,w4⟩:=Option.map_eq_some_iff.mp w'
          have h1':adr ws j = b:=by have:=List.find?_some w3; simpa using this
          have h2':=List.mem_range.mp (List.mem_of_find?_eq_some w3)
          subst h1'
          cases w4
          obtain ⟨ob,t1,t2,c,x1,x2,x3,x4⟩:=tb j h2'
          exact ⟨show 2 ≤ sizeLine by decide,[.str (txt (KU j).1) t1,.str (txt (KU j).2) t2],.cons ⟨t1,rfl⟩ (.cons ⟨t2,rfl⟩ .nil),ob,k2 _ _ x2,x3,c,x4⟩
    have hzp:(p.toList.map KU).Perm kvs:=by
      have e2:(List.range vs.length).map KU = kvs:=by
        apply List.ext_getElem
        · rw [List.length_map,List.length_range,hl]
        · intro i h1' h2'
          rw [List.getElem_map,List.getElem_range]
          show kvs.getD i ([],[]) = _
          rw [List.getD_eq_getElem?_getD,List.getElem?_eq_getElem h2']
          rfl
      rw [← e2]
      exact hpl.map KU
    refine ⟨.ref h1.objs.size,Hn,fin,rfl,q Hn h1.objs.size ys (p.toList.map KU) (fun b o e=>?_) (nH _ nbl) hHl hzp ?_ (by show (p.toList.map _).length = _; rw [List.length_map,List.length_map]) fun i kv e=>?_⟩
    · obtain ⟨ob,w3⟩:=(I.hok b o e).there
      show (if (s.heap.get? b).isSome = true then _ else _) = _
      rw [w3,if_pos (show (some ob).isSome = true from rfl)]
      exact e
    · rw [List.map_map,List.pairwise_map,List.pairwise_iff_getElem]
      intro i j hi hj hij
      rw [Array.length_toList,p1] at hi hj
      have:=p3 i j hij hj
      unfold KSrt.ky at this
      rw [show p.getD i 0 = p.toList[i]'(by rw [Array.length_toList,p1]; exact hi) by simp [Array.getD,p1,hi],show p.getD j 0 = p.toList[j]'(by rw [Array.length_toList,p1]; exact hj) by simp [Array.getD,p1,hj]] at this
      exact this
    · rw [List.getElem?_map] at e
      obtain ⟨j,e1,rfl⟩:=Option.map_eq_some_iff.mp e
      have hj:j < ws.length:=by rw [l1]; exact plt j (List.mem_of_getElem? e1)
      exact ⟨adr ws j,by show (p.toList.map _)[i]? = _; rw [List.getElem?_map,e1]; rfl,hHt j hj,nH _ (nad j hj)⟩
end
section
variable {X:Cx}
structure QPs (X:Cx) (pos:Pos) (keys:List (Option Expr)) (values:List Expr) (trs:List (TE × TE)):Prop where
  p:PPs X pos keys values trs
theorem kps_nil {pos:Pos}:QPs X pos [] [] []:=⟨pps_nil⟩
theorem kps_cons {pos:Pos} {k v:Expr} {ks:List (Option Expr)} {vs:List Expr} {tk tv:TE} {trs:List (TE × TE)} (hk:QE X k tk) (hv:QE X v tv) (hr:QPs X pos ks vs trs):QPs X pos (some k :: ks) (v :: vs) ((tk,tv) :: trs):=⟨pps_cons hk.p hv.p hr.p⟩
theorem ke_disp {pos:Pos} {keys:List (Option Expr)} {values:List Expr} {trs:List (TE × TE)} (h:QPs X pos keys values trs) (hall:keys.all (·.isSome) = true:=by rfl) (hl:keys.length = values.length:=by rfl) (h0:keys ≠ []:=by simp)
    (h15:keys.length ≤ 15:=by decide):QE X (.Dict keys values pos) (tDisp trs):=⟨pe_disp h.p hall hl h0 h15⟩
abbrev rLenD:List V→Hp→VK→Prop:=fun xs H Q=>∃ p kvs,xs = [.ref p]∧H p = some (.dK kvs)∧Q (.int kvs.length) H
theorem call_lenD:CallR X (.builtin "len") rLenD:=by
  intro pins s σ H xs us Q I r h
  obtain ⟨p,kvs,rfl,hH,q⟩:=h
  obtain ⟨u,rfl,rx⟩:=vals1 r
  cases rx
  have hn:=line63
  obtain ⟨z,hd,vs,rel,dd⟩:=dk_of I.hok hH
  have hlen:=rel.length
  exact call_len_dict hd dd (by omega) ⟨.int kvs.length,H,I.tok _,⟨s.toks + 1,by rw [hlen]⟩,q⟩
end
theorem turn_long {P:Program} {w:World} {K:PySem.W.Frag} {tg:Expr} (it:Addr) (lo:Int) (n:Nat):Turn P w K tg (Itr lo n) [it] it (fun i h=>IsLongIter h it (lo + (i:Nat) * 1) ((n:Int) - (i:Nat)) 1) where
  mem:=by simp
  obj:=fun i h st b hb=>by
    have e:b = it:=by simpa using hb
    subst e
    exact ⟨_,st,fun v z=>by
      have z':Data.fields _ = Data.cell v:=z
      cases z'⟩
  keep:=fun i h h' st k=>k it (by simp) _ st
  item:=by
    intro X hP hw hK hc i pins s σ H E I hf st hg
    subst hP hw hK
    obtain ⟨f0,f1,f2,f3,f4,f5⟩:=hf it (by simp)
    have W:=Walks.longrange (prog:=X.prog) (w:=X.w) (I.ok.hd hc) it lo 1 n
    refine W.item i s _ _ hg st fun v h' tk hv st' kk=>?_
    obtain ⟨t,rfl⟩:=hv
    have I1:Inv X pins σ H { s with heap:=h',toks:=tk }:=I.turned (fun b o hb e=>kk b o (by simpa using hb) e) f0 f1 f3 f4 f5
    refine ⟨_,rfl,go_of (s:={ s with heap:=h',toks:=tk }) (n:="longrange_iterator") st' rfl rfl (by decide) ⟨.int (lo + i),H,I1,⟨t,?_⟩,⟨rfl,rfl⟩,st',fun b hb=>(hf b hb).1⟩⟩
    rw [Int.mul_one]
  done:=by
    intro X hP hw hK hc i pins s σ H E I hf st hg
    subst hP hw hK
    obtain ⟨f0,f1,f2,f3,f4,f5⟩:=hf it (by simp)
    exact wpAny_pyNext_long_end (I.ok.hd hc) st (by have:n ≤ i:=hg; omega) fun h' eb=>⟨rfl,I.turned (t':=s.toks) (fun b o hb e=>eb b o hb e) f0 f1 f3 f4 f5⟩
  self:=fun _ _ _ _ _ st h=>wpAny_pyIter_longiter st h
section
variable {X:Cx} {tg:Expr}
theorem range_itB {pins:List (Addr × Obj)} {σ:St} {H:Hp} {s:Shared} {R:It→Hp→Prop} {E:Value→Shared→Prop} {lo hi:Int} {t u v:Tok} {tk:Nat} (I:Inv X pins σ H s)
    (q:R (Itr lo (hi - lo).toNat) H):wpAny (model X.prog X.w) X.A (pyIter (.ref s.heap.objs.size)) (PIE X pins σ tg R) E { s with heap:=s.heap.push { cls:=.type "range",data:=.fields #[.int lo t,.int hi u,.int 1 v] },toks:=tk }:=by
  have I1:Inv X pins σ H { s with heap:=s.heap.push { cls:=.type "range",data:=.fields #[.int lo t,.int hi u,.int 1 v] },toks:=tk }:=I.kept fun b o e=>Heap.get?_push_of_some _ e
  have e1:lo + ((0:Nat):Int) * 1 = lo:=by simp
  have e2:(((hi - lo).toNat:Nat):Int) - ((0:Nat):Int) = Builtin.Range.rangeSize lo hi 1:=by rw [rangeSize_one]; split <;> omega
  cases hsm:Builtin.Range.small lo hi 1 with
  | true=>
    refine wpAny_pyIter_range (IsRange.new ..) hsm ?_
    refine ⟨(s.heap.push { cls := .type "range", data := .fields #[.int lo t, .int hi u, .int 1 v] }).objs.size, [(s.heap.push { cls := .type "range", data := .fields #[.int lo t, .int hi u, .int 1 v] }).objs.size], _, _, H, rfl,
      I1.kept (t':=tk) fun b o e=>Heap.get?_push_of_some _ e,turn_range _ lo (hi - lo).toNat,?_,fun b hb=>?_,q⟩
    · show IsRangeIter _ _ (lo + ((0:Nat):Int) * 1) ((((hi - lo).toNat:Nat):Int) - ((0:Nat):Int)) 1
      rw [e1,e2]
      exact Heap.get?_push_size _ rfl
    · have e:b = (s.heap.push { cls:=.type "range",data:=.fields #[.int lo t,.int hi u,.int 1 v] }).objs.size:=by simpa using hb
      subst e
      exact I1.fpOk (Nat.le_refl _) (I1.hok.fresh (Nat.le_refl _))
  | false=>
    refine wpAny_pyIter_longrange (IsRange.new ..) hsm ?_
    refine ⟨(s.heap.push { cls := .type "range", data := .fields #[.int lo t, .int hi u, .int 1 v] }).objs.size, [(s.heap.push { cls := .type "range", data := .fields #[.int lo t, .int hi u, .int 1 v] }).objs.size], _, _, H, rfl,
      I1.kept (t':=tk) fun b o e=>Heap.get?_push_of_some _ e,turn_long _ lo (hi - lo).toNat,?_,fun b hb=>?_,q⟩
    · show IsLongIter _ _ (lo + ((0:Nat):Int) * 1) ((((hi - lo).toNat:Nat):Int) - ((0:Nat):Int)) 1
      rw [e1,e2]
      exact Heap.get?_push_size _ rfl
    · have e:b = (s.heap.push { cls:=.type "range",data:=.fields #[.int lo t,.int hi u,.int 1 v] }).objs.size:=by simpa using hb
      subst e
      exact I1.fpOk (Nat.le_refl _) (I1.hok.fresh (Nat.le_refl _))
def iRng2B (ta:TA):TI:=fun σ H R=>ta σ H fun vs H1=>∃ i j:Int,vs = [.int i,.int j]∧R (Itr i (j - i).toNat) H1
theorem pi_range2B {a b : Expr} {ta : TA} {p pos : Pos} (hg : Gl X "range") (hm : X.mg "range" = none) (ha : PA X [a, b] ta) (hs : starEach [a, b] X.env = [(false, eval a X.env), (false, eval b X.env)] := by rfl) (hs2 : starEach [b] X.env = [(false, eval b X.env)] := by rfl) :
    PI X tg (.Call (.Name "range" p) [a,b] [] pos) (iRng2B ta):=by
  intro pins s σ H R I h
  refine Call_ (ld_blt I hg hm boot_range (PyProof.Rows.callWith_type1 (thn (ha pos pins s σ H _ I h) fun us s1 ⟨vs,H1,I1,r1,q1⟩=>?_) (by rw [hs,hs2]) (by rw [hs2]; rfl)))
  obtain ⟨i,j,e,q⟩:=q1
  subst e
  cases r1 with
  | cons r rr=>
    cases rr with
    | cons r' rr=>
      cases rr
      obtain ⟨t,rfl⟩:=r
      obtain ⟨t',rfl⟩:=r'
      exact call_range_2 (range_itB I1 q)
theorem ki_range2B {a b : Expr} {ta : TA} {p pos : Pos} (hm : X.mg "range" = none) (ha : QA X [a, b] ta) (hg : X.env.kindOf "range" = some .globalImplicit := by kernel_rfl) (hs : starEach [a, b] X.env = [(false, eval a X.env), (false, eval b X.env)] := by kernel_rfl) (hs2 : starEach [b] X.env = [(false, eval b X.env)] := by kernel_rfl) : QI X tg (.Call (.Name "range" p) [a, b] [] pos) (iRng2B ta) := ⟨pi_range2B hg hm ha.p hs hs2⟩
theorem for_r2B {ta:TA} {g:TG} {tb:TS} {D:Ends} {σ:St} {H:Hp} {l j:Int} (ha:∀ Q:List V→Hp→Prop,Q [.int l,.int j] H→ta σ H Q)
    (Pv:Nat→St→Hp→Prop) (h0:Pv 0 σ H) (hs:∀ (i:Nat) σ H,l + (i:Int) < j→Pv i σ H→g (.int (l + i)) σ H fun σ2 H2=>tb { D with nx:=Pv (i + 1),ct:=Pv (i + 1),bk:=D.nx } σ2 H2)
    (hd:∀ σ H,Pv (j - l).toNat σ H→D.nx σ H):tFor (iRng2B ta) g tb D σ H:=by
  refine ha _ ⟨l,j,rfl,?_⟩
  exact for_range (lo:=l) (n:=(j - l).toNat) Pv h0 (fun i σ H hi p=>hs i σ H (by omega) p) hd
end
end L2
local macro_rules | `(tactic| and_intros)=>`(tactic| simp only [L2.tCompSet,L2.tRaise,L2.tIsi,L2.tSeq,L2.tAsg,L2.gName,L2.tOp,L2.tVar,L2.tC,L2.tTest,L2.tB,L2.tIf,L2.tIfS,L2.tAnd,L2.tOr,L2.tNot,L2.tAndV,L2.tRet,L2.tNext,L2.tDrop,L2.tCB,L2.tCons,L2.tNil,L2.tBM,L2.tBM0,L2.tCall,L2.tLst,L2.tTup,L2.tIsN,L2.tNotN,L2.tYes,L2.rI0,L2.rI,L2.rEq,L2.rNe,L2.start,L2.compSt,List.map_cons,List.map_nil,List.length_cons,List.length_nil,List.replicate_succ,List.replicate_zero,List.cons_append,List.nil_append,List.append_nil,List.getElem?_cons_zero,List.getElem?_cons_succ,List.set_cons_zero,List.set_cons_succ,Option.some.injEq,Option.join_some,L2.V.int.injEq,L2.V.str.injEq,L2.V.bl.injEq,L2.V.ref.injEq,L2.txt_inj,exists_eq_left',exists_eq_left,exists_and_left,and_true,true_and,decide_eq_true_eq,reduceCtorEq,decide_false,decide_true,Bool.not_false,Bool.not_true,if_true,if_false,Bool.false_eq_true,Nat.reduceAdd,Nat.reduceSub,Bool.not_eq_true',decide_eq_false_iff_not,not_true_eq_false,not_false_eq_true])
local macro_rules | `(tactic| simp? [$t,*])=>`(tactic| simp only [$t,*,L2.tCompSet,L2.tRaise,L2.tIsi,L2.tSeq,L2.tAsg,L2.gName,L2.tOp,L2.tVar,L2.tC,L2.tTest,L2.tB,L2.tIf,L2.tIfS,L2.tAnd,L2.tOr,L2.tNot,L2.tAndV,L2.tRet,L2.tNext,L2.tDrop,L2.tCB,L2.tCons,L2.tNil,L2.tBM,L2.tBM0,L2.tCall,L2.tLst,L2.tTup,L2.tIsN,L2.tNotN,L2.tYes,L2.rI0,L2.rI,L2.rEq,L2.rNe,L2.start,L2.compSt,List.map_cons,List.map_nil,List.length_cons,List.length_nil,List.replicate_succ,List.replicate_zero,List.cons_append,List.nil_append,List.append_nil,List.getElem?_cons_zero,List.getElem?_cons_succ,List.set_cons_zero,List.set_cons_succ,Option.some.injEq,Option.join_some,L2.V.int.injEq,L2.V.str.injEq,L2.V.bl.injEq,L2.V.ref.injEq,L2.txt_inj,exists_eq_left',exists_eq_left,exists_and_left,and_true,true_and,decide_eq_true_eq,reduceCtorEq,decide_false,decide_true,Bool.not_false,Bool.not_true,if_true,if_false,Bool.false_eq_true,Nat.reduceAdd,Nat.reduceSub,Bool.not_eq_true',decide_eq_false_iff_not,not_true_eq_false,not_false_eq_true])
namespace L2
open PySem PySem.Spec PyProof.Rows MM
def spDraw (K:PySem.W.Frag):Sp:=fun vs H Q _=>∃ (a:Addr) (ns:List Int) (k m:Int),vs = [.ref a,.int k,.int m]∧SqL K H a (ns.map V.int)∧ns.length ≤ 63∧0 ≤ k∧k < 1048576∧0 < m∧∀ r:Int,0 ≤ r→r < m→Q (.int r) H
def rdDraw (K:PySem.W.Frag):TS:=
    tSeq (tAsg (tIf (tTest (tOp rGtI (tCB (rLenL K) (tCons (tVar 0) tNil)) (tC (.int 0)))) (tOp (rIxL K) (tVar 0) (tOp rModI (tVar 1) (tCB (rLenL K) (tCons (tVar 0) tNil)))) (tC (.int 0))) (gName 3))
      (tSeq (tIfS (tAnd (tTest (tOp rGtI (tCB (rLenL K) (tCons (tVar 0) tNil)) (tC (.int 0)))) (tTest (tOp rEq (tOp rModI (tOp (rIxL K) (tVar 0) (tC (.int 0))) (tC (.int 2))) (tC (.int 1))))) (tRet (tOp rModI (tOp rModI (tOp rShrI (tVar 3) (tOp rAddI (tOp rMulI (tC (.int 20)) (tOp rDivI (tVar 1) (tCB (rLenL K) (tCons (tVar 0) tNil)))) (tC (.int 1)))) (tC (.int 1048576))) (tVar 2))) (tNext))
      (tSeq (tAsg (tOp rAddI (tOp rAddI (tOp rModI (tVar 3) (tC (.int 1000003))) (tOp rMulI (tOp rMulI (tC (.int 31)) (tVar 1)) (tVar 1))) (tC (.int 1))) (gName 4))
      (tRet (tOp rModI (tOp rModI (tOp rMulI (tOp rModI (tOp rMulI (tVar 4) (tC (.int 48271))) (tC (.int 999983))) (tC (.int 7919))) (tC (.int 524287))) (tVar 2)))))
theorem draw_end {i k m:Int} {Q:Int→Prop} (h0:0 ≤ k) (h1:k < 1048576) (h2:0 < m) (q:∀ r:Int,0 ≤ r→r < m→Q r) :
    (0:Int) < 1000003∧CMulB 31 k∧CMulB (31 * k) k∧CMulB (i % 1000003 + 31 * k * k + 1) 48271∧(0:Int) < 999983∧CMulB ((i % 1000003 + 31 * k * k + 1) * 48271 % 999983) 7919∧(0:Int) < 524287∧0 < m∧
      Q ((i % 1000003 + 31 * k * k + 1) * 48271 % 999983 * 7919 % 524287 % m):=
  ⟨by decide,mulB_l (by decide) (by decide),mulB_r (by omega) (by omega),mulB_r (by decide) (by decide),by decide,mulB_r (by decide) (by decide),by decide,h2,q _ (Int.emod_nonneg _ (by omega)) (Int.emod_lt_of_pos _ h2)⟩
theorem draw_shr {i k m:Int} {x:Int} {Q:Int→Prop} (h0:0 ≤ k) (hx:0 < x) (hx2:x ≤ 63) (h2:0 < m) (q:∀ r:Int,0 ≤ r→r < m→Q r) :
    CDiv k x∧CMulB 20 (k / x)∧0 ≤ 20 * (k / x) + 1∧(0:Int) < 1048576∧0 < m∧Q (i / 2 ^ (20 * (k / x) + 1).toNat % 1048576 % m):=by
  have e:0 ≤ k / x:=Int.ediv_nonneg h0 (by omega)
  exact ⟨cdiv hx (by omega),mulB_l (by decide) (by decide),by omega,by decide,h2,q _ (Int.emod_nonneg _ (by omega)) (Int.emod_lt_of_pos _ h2)⟩
theorem read_draw {K:PySem.W.Frag} {N:List Str} {vs:List V} {H:Hp} {Q:VK} {E:XK} (hN:N.length = 5) (h:spDraw K vs H Q E):rdDraw K { nx:=fun _ H'=>Q .non H',rt:=Q } (L2.start N vs) H:=by
  obtain ⟨a,ns,k,m,rfl,hS,hl,h0,h1,h2,q⟩:=h
  unfold rdDraw L2.start
  rw [hN]
  and_intros
  refine lenI_go hS ⟨_,rfl,?_⟩
  by_cases hn:(0:Int) < (ns.length:Int)
  · rw [if_pos hn]
    refine lenI_go hS ⟨_,rfl,hn,ixI_go hS (Int.emod_nonneg _ (by omega)) (Int.emod_lt_of_pos _ hn) fun z _ _=>?_⟩
    refine lenI_go hS ⟨_,rfl,?_⟩
    rw [if_pos hn]
    refine ixI_go hS (by decide) hn fun z0 _ _=>⟨_,rfl,by decide,rfl,?_⟩
    split
    · refine lenI_go hS ⟨_,rfl,?_⟩
      have:=draw_shr (i:=z) (Q:=fun r=>Q (.int r) H) h0 hn (by omega) h2 q
      exact ⟨this.1,this.2.1,_,rfl,this.2.2⟩
    · exact ⟨_,rfl,draw_end (Q:=fun r=>Q (.int r) H) h0 h1 h2 q⟩
  · rw [if_neg hn]
    refine lenI_go hS ⟨_,rfl,?_⟩
    rw [if_neg hn]
    exact draw_end (Q:=fun r=>Q (.int r) H) h0 h1 h2 q
def spEnds:Sp:=fun vs H Q _=>∃ (K h j:Nat),vs = [.int K,.int h,.int j]∧K ≤ 26∧0 < h∧∀ H',Same H H'→Q (.str (txt (endsL K h j))) H'
def rdEnds (K:PySem.W.Frag):TS:=
    tRet (tBM K "str" (rJoin K) (tC (.str (txt []))) (tCons (tComp (iRng2 (tCons (tC (.int 1)) (tCons (tVar 0) tNil))) [2,1] (tTest (tOp rEq (tOp rModI (tOp rSubI (tVar 0) (tC (.int 1))) (tVar 2)) (tVar 1))) (tOp rIxStr (tC (.str (txt ABC))) (tVar 0))) tNil))
theorem flat_ones (l:List Nat):(l.map fun c=>[c]).flatten = l:=by
  induction l with
  | nil=>rfl
  | cons c l ih=>rw [List.map_cons,List.flatten_cons,ih]; rfl
theorem sum_ones (l:List Nat):((l.map fun c=>[c]).map (·.length)).sum = l.length:=by
  induction l with
  | nil=>rfl
  | cons c l ih=>simp only [List.map_cons,List.sum_cons,ih,List.length_cons,List.length_nil]; omega
theorem read_ends {K:PySem.W.Frag} {N:List Str} {vs:List V} {H:Hp} {Q:VK} {E:XK} (hN:N.length = 3) (h:spEnds vs H Q E):rdEnds K { nx:=fun _ H'=>Q .non H',rt:=Q } (L2.start N vs) H:=by
  obtain ⟨n,h,j,rfl,hn,hh,q⟩:=h
  unfold rdEnds L2.start
  rw [hN]
  and_intros
  refine ⟨rfl,?_⟩
  refine comp_r2 (l:=1) (j:=n) (fun Q h=>⟨_,rfl,h⟩) (by decide) (by decide) (by omega) (by omega) (Nat.le_trans (show ((n:Int) - 1).toNat ≤ 100000 by omega) (by decide))
    (fun i ys H'=>H' = H∧ys = ((List.range i).filter (fun i=>decide (i % h = j))).map (fun i=>strV [98 + i])) ⟨rfl,rfl⟩
    (fun i ys H' _ p=>by rw [p.2,List.length_map]; exact Nat.le_trans (List.length_filter_le _ _) (by rw [List.length_range]; exact Nat.le_refl _)) ?_ ?_
  · rintro i ys H' hi ⟨rfl,rfl⟩ R hR
    and_intros
    have e1:(1 + (i:Int) - 1) % (h:Int) = ((i % h:Nat):Int):=by rw [show (1 + (i:Int) - 1) = (i:Int) by omega]; exact (Int.natCast_emod i h).symm
    rw [e1]
    refine ⟨by omega,rfl,?_⟩
    rw [List.range_succ,List.filter_append,List.map_append] at hR
    split
    · rename_i e
      refine ixABC_go (by omega) (by omega) (hR _ _ ⟨rfl,?_⟩)
      rw [show (1 + (i:Int)).toNat = i + 1 by omega,List.filter_cons_of_pos (by simpa using (show i % h = j by omega))]
      simp only [List.filter_nil,List.map_cons,List.map_nil]
      rw [show 97 + (i + 1) = 98 + i by omega]; rfl
    · rename_i e
      refine hR _ _ ⟨rfl,?_⟩
      rw [List.filter_cons_of_neg (by simpa using (show ¬ i % h = j by omega))]
      simp
  · rintro ys H' ⟨rfl,rfl⟩ p hp
    refine ⟨[],p,(endsL n h j).map (fun c=>[c]),rfl,rfl,?_,?_,?_⟩
    · refine .inl (.inl (Eq.trans upd_same (congrArg (fun l=>some (HO.lst l)) ?_)))
      unfold endsL
      rw [show ((n:Int) - 1).toNat = n - 1 by omega,List.map_map,List.map_map]
      rfl
    · rw [sum_ones,List.length_map]
      have:(endsL n h j).length ≤ 26:=by
        unfold endsL
        rw [List.length_map]
        exact Nat.le_trans (List.length_filter_le _ _) (by rw [List.length_range]; omega)
      simp only [List.length_nil]; omega
    · rw [joinL_nil,flat_ones]
      exact q _ (Same.up _ hp)
def oV:Option (List Nat)→V
  | none=>.non
  | some l=>.str (txt l)
def figO:Option (List Nat)→Nat→Nat
  | none,_=>0
  | some l,i=>fig l i
def valO (K:Nat):Option (List Nat)→Nat→Nat
  | none,_=>0
  | some l,n=>val K l n
def OkO:Option (List Nat)→Prop
  | none=>True
  | some l=>Ls 26 l∧l.length ≤ 100000
theorem valO_zero (K:Nat) (o:Option (List Nat)):valO K o 0 = 0:=by cases o <;> simp [valO,val_zero]
theorem valO_succ (K:Nat) (o:Option (List Nat)) (n:Nat):valO K o (n + 1) = valO K o n * K + figO o n:=by
  cases o with
  | none=>simp [valO,figO]
  | some l=>exact val_succ K l n
def spFig:Sp:=fun vs H Q _=>∃ (o:Option (List Nat)) (i:Nat),vs = [oV o,.int i]∧OkO o∧Q (.int (figO o i:Nat)) H
def rdFig (K:PySem.W.Frag):TS:=
    tSeq (tIfS (tOr (tB (tIsN (tVar 0))) (tTest (tOp rGeI (tVar 1) (tCB rLenS (tCons (tVar 0) tNil))))) (tRet (tC (.int 0))) (tNext))
      (tRet (tBM K "str" rIndex (tC (.str (txt ABC))) (tCons (tOp rIxStr (tVar 0) (tVar 1)) tNil)))
theorem read_fig {K:PySem.W.Frag} {N:List Str} {vs:List V} {H:Hp} {Q:VK} {E:XK} (hN:N.length = 2) (h:spFig vs H Q E):rdFig K { nx:=fun _ H'=>Q .non H',rt:=Q } (L2.start N vs) H:=by
  obtain ⟨o,i,rfl,ho,q⟩:=h
  unfold rdFig L2.start
  rw [hN]
  cases o with
  | none=>
    simp? [oV]
    exact q
  | some l=>
    obtain ⟨hl,hz⟩:=ho
    simp? [oV]
    refine lenS_go hz ⟨_,rfl,?_⟩
    by_cases hi:l.length ≤ i
    · rw [if_pos (by omega)]
      have e:figO (some l) i = 0:=by simp [figO,fig,List.getElem?_eq_none hi]
      rw [e] at q
      exact q
    · rw [if_neg (by omega)]
      have hi':i < l.length:=by omega
      have e:figO (some l) i = l[i] - 97:=by simp [figO,fig,hi']
      have hc:=hl l[i] (List.getElem_mem hi')
      rw [e] at q
      exact ⟨rfl,ixS_go hz (by omega) (by simp [hi']) (idxABC_go hc.1 hc.2 q)⟩
def spWhole:Sp:=fun vs H Q _=>∃ (L:Nat) (o:Option (List Nat)) (n:Nat),vs = [.int L,oV o,.int n]∧L ≤ 26∧OkO o∧n ≤ 100000∧Q (.int (valO L o n:Nat)) H
def rdWhole:TS:=
    tSeq (tAsg (tC (.int 0)) (gName 3))
      (tSeq (tFor (iRng1 (tCons (tVar 2) tNil)) (gName 4) (tAsg (tOp rAddI (tOp rMulI (tVar 3) (tVar 0)) (tCall spFig [] E0 (tCons (tVar 1) (tCons (tVar 4) tNil)))) (gName 3)))
      (tRet (tVar 3)))
theorem read_whole {N:List Str} {vs:List V} {H:Hp} {Q:VK} {E:XK} (hN:N.length = 5) (h:spWhole vs H Q E):rdWhole { nx:=fun _ H'=>Q .non H',rt:=Q } (L2.start N vs) H:=by
  obtain ⟨L,o,n,rfl,hL,ho,hn,q⟩:=h
  unfold rdWhole L2.start
  rw [hN]
  and_intros
  refine for_r1 (j:=n) (fun Q h=>⟨_,rfl,h⟩) (by omega) (by omega) (fun i σ H'=>H' = H∧∃ v4,σ = [some (.int L),some (oV o),some (.int n),some (.int (valO L o i:Nat)),v4]) ⟨rfl,_,by rw [valO_zero]; rfl⟩ ?_ ?_
  · rintro i σ H1 hi ⟨rfl,v4,rfl⟩
    and_intros
    refine ⟨mulB_r (by omega) (by omega),o,i,rfl,ho,?_⟩
    and_intros
    exact ⟨some (.int i),by rw [valO_succ,Int.natCast_add,Int.natCast_mul]⟩
  · rintro σ H1 ⟨rfl,v4,rfl⟩
    and_intros
    rw [Int.toNat_natCast]
    exact q
def spMarkOf:Sp:=fun vs H Q _=>∃ (L r n:Nat),vs = [.int L,.int r,.int n]∧0 < L∧L ≤ 26∧n ≤ 100000∧Q (.str (txt (mk L r n))) H
def rdMarkOf (K:PySem.W.Frag):TS:=
    tSeq (tAsg (tC (.str (txt []))) (gName 3))
      (tSeq (tAsg (tVar 1) (gName 4))
      (tSeq (tFor (iRng1 (tCons (tVar 2) tNil)) (gName 5) (tSeq (tAsg (tOp rAddS (tOp rIxStr (tC (.str (txt ABC))) (tOp rModI (tVar 4) (tVar 0))) (tVar 3)) (gName 3))
      (tAsg (tOp rDivI (tVar 4) (tVar 0)) (gName 4))))
      (tRet (tBM K "str" rRstrip (tVar 3) (tCons (tC (.str (txt [97]))) tNil)))))
theorem read_markOf {K:PySem.W.Frag} {N:List Str} {vs:List V} {H:Hp} {Q:VK} {E:XK} (hN:N.length = 6) (h:spMarkOf vs H Q E):rdMarkOf K { nx:=fun _ H'=>Q .non H',rt:=Q } (L2.start N vs) H:=by
  obtain ⟨L,r,n,rfl,hL0,hL,hn,q⟩:=h
  unfold rdMarkOf L2.start
  rw [hN]
  and_intros
  refine for_r1 (j:=n) (fun Q h=>⟨_,rfl,h⟩) (by omega) (by omega) (fun i σ H'=>H' = H∧∃ v5,σ = [some (.int L),some (.int r),some (.int n),some (.str (txt (low L r i))),some (.int (r / L ^ i:Nat)),v5]) ⟨rfl,_,by rw [Nat.pow_zero,Nat.div_one]; rfl⟩ ?_ ?_
  · rintro i σ H1 hi ⟨rfl,v5,rfl⟩
    have e1:((r / L ^ i:Nat):Int) % (L:Int) = ((r / L ^ i % L:Nat):Int):=(Int.natCast_emod _ _).symm
    have e2:((r / L ^ i:Nat):Int) / (L:Int) = ((r / L ^ (i + 1):Nat):Int):=by rw [Nat.pow_succ,← Nat.div_div_eq_div_mul]; exact (Int.natCast_ediv _ _).symm
    have hb:=Nat.mod_lt (r / L ^ i) hL0
    and_intros
    rw [e1,e2]
    refine ⟨by omega,ixABC_go (by omega) (by omega) (addS_go (by rw [low_length]; simp only [List.length_cons,List.length_nil]; omega) ⟨cdiv (by omega) (by omega),?_⟩)⟩
    exact ⟨rfl,some (.int i),by rw [Int.toNat_natCast]; rfl⟩
  · rintro σ H1 ⟨rfl,v5,rfl⟩
    and_intros
    rw [Int.toNat_natCast]
    exact ⟨rfl,rstrip_go (by rw [low_length]; exact hn) q⟩
theorem Same.set {H H':Hp} {p:Addr} {o:HO} (s:Same H H') (hp:H p = none):Same H (upd H' p o):=fun b q e=>by
  have:=s b q e
  rw [upd_ne (ne_of_none e hp)]; exact this
theorem some_at {α:Type} {l:List α} {i:Nat} (h:i < l.length):∃ c,l[i]? = some c:=⟨l[i],List.getElem?_eq_getElem h⟩
def spLWhole:Sp:=fun vs H Q _=>∃ (L:Nat) (l:List Nat) (n:Nat),vs = [.int L,.str (txt l),.int n]∧L ≤ 26∧Ls 26 l∧l.length ≤ 100000∧n ≤ 100000∧Q (.int (val L l n:Nat)) H
def spPower:Sp:=fun vs H Q _=>∃ (L n:Nat),vs = [.int L,.int n]∧L ≤ 26∧n ≤ 100000∧Q (.int (L ^ n:Nat)) H
def rdPower:TS:=
    tSeq (tAsg (tC (.int 1)) (gName 2))
      (tSeq (tFor (iRng1 (tCons (tVar 1) tNil)) (gName 3) (tAsg (tOp rMulI (tVar 2) (tVar 0)) (gName 2)))
      (tRet (tVar 2)))
theorem read_power {N:List Str} {vs:List V} {H:Hp} {Q:VK} {E:XK} (hN:N.length = 4) (h:spPower vs H Q E):rdPower { nx:=fun _ H'=>Q .non H',rt:=Q } (L2.start N vs) H:=by
  obtain ⟨L,n,rfl,hL,hn,q⟩:=h
  unfold rdPower L2.start
  rw [hN]
  and_intros
  refine for_r1 (j:=n) (fun Q h=>⟨_,rfl,h⟩) (by omega) (by omega) (fun i σ H'=>H' = H∧∃ v3,σ = [some (.int L),some (.int n),some (.int (L ^ i:Nat)),v3]) ⟨rfl,_,rfl⟩ ?_ ?_
  · rintro i σ H1 hi ⟨rfl,v3,rfl⟩
    and_intros
    exact ⟨mulB_r (by omega) (by omega),some (.int i),by rw [Nat.pow_succ,Int.natCast_mul]⟩
  · rintro σ H1 ⟨rfl,v3,rfl⟩
    and_intros
    rw [Int.toNat_natCast]
    exact q
def highO (L:Nat):Option (List Nat)→Nat→Nat
  | none,n=>L ^ n
  | some h,n=>val L h n
def spHigh:Sp:=fun vs H Q _=>∃ (L:Nat) (o:Option (List Nat)) (n:Nat),vs = [.int L,oV o,.int n]∧L ≤ 26∧OkO o∧n ≤ 100000∧Q (.int (highO L o n:Nat)) H
def rdHigh:TS:=
    tSeq (tIfS (tB (tIsN (tVar 1))) (tRet (tCall spPower [] E0 (tCons (tVar 0) (tCons (tVar 2) tNil)))) (tNext))
      (tRet (tCall spWhole [] E0 (tCons (tVar 0) (tCons (tVar 1) (tCons (tVar 2) tNil)))))
theorem read_high {N:List Str} {vs:List V} {H:Hp} {Q:VK} {E:XK} (hN:N.length = 3) (h:spHigh vs H Q E):rdHigh { nx:=fun _ H'=>Q .non H',rt:=Q } (L2.start N vs) H:=by
  obtain ⟨L,o,n,rfl,hL,ho,hn,q⟩:=h
  unfold rdHigh L2.start
  rw [hN]
  cases o with
  | none=>
    simp? [oV]
    exact ⟨L,n,rfl,hL,hn,q⟩
  | some h=>
    simp? [oV]
    exact ⟨L,some h,n,rfl,hL,ho,hn,q⟩
def spBelow:Sp:=fun vs H Q _=>∃ (L:Nat) (es:List Nat) (n:Nat),vs = [.int L,.str (txt es),.int n]∧0 < L∧L ≤ 26∧es.length ≤ 26∧∀ H',Same H H'→Q (.int (ob L es n:Nat)) H'
def rdBelow (K:PySem.W.Frag):TS:=
    tSeq (tCompSet 3 (iStr (tVar 1)) [2,0] (tTest (tOp rLtS (tVar 0) (tOp rIxStr (tC (.str (txt ABC))) (tOp rModI (tVar 1) (tVar 2))))) (tVar 0))
      (tRet (tOp rAddI (tOp rMulI (tOp rDivI (tVar 2) (tVar 0)) (tCB rLenS (tCons (tVar 1) tNil))) (tCB (rLenL K) (tCons (tVar 3) tNil))))
theorem one_lt (a b:Nat):([a] < [b]) ↔ a < b:=by
  rw [List.cons_lt_cons_iff]
  constructor
  · rintro (h | ⟨_,h⟩)
    · exact h
    · exact absurd h (List.not_lt_nil _)
  · exact .inl
theorem read_below {K:PySem.W.Frag} {N:List Str} {vs:List V} {H:Hp} {Q:VK} {E:XK} (hN:N.length = 4) (h:spBelow vs H Q E):rdBelow K { nx:=fun _ H'=>Q .non H',rt:=Q } (L2.start N vs) H:=by
  obtain ⟨L,es,n,rfl,hL0,hL,hes,q⟩:=h
  unfold rdBelow L2.start
  rw [hN]
  have hm:=Nat.mod_lt n hL0
  have e1:(n:Int) % (L:Int) = ((n % L:Nat):Int):=(Int.natCast_emod _ _).symm
  have e2:(n:Int) / (L:Int) = ((n / L:Nat):Int):=(Int.natCast_ediv _ _).symm
  and_intros
  refine comp_s (l:=es) (fun Q h=>⟨_,rfl,h⟩) (Nat.le_trans (show es.length ≤ 100000 by omega) (by decide)) (fun i ys H'=>H' = H∧ys = ((es.take i).filter fun e=>decide (e < 97 + n % L)).map (fun c=>strV [c])) ⟨rfl,rfl⟩
    (fun i ys H' _ p=>by rw [p.2,List.length_map]; exact Nat.le_trans (List.length_filter_le _ _) (by rw [List.length_take]; omega)) ?_ ?_
  · rintro i c ys H' hc ⟨rfl,rfl⟩ R hR
    and_intros
    rw [e1]
    refine ⟨by omega,ixABC_go (by omega) (by omega) ⟨_,_,rfl,rfl,_,rfl,?_⟩⟩
    rw [Int.toNat_natCast]
    rw [List.take_succ,hc,List.filter_append,List.map_append] at hR
    by_cases hlt:c < 97 + n % L
    · rw [decide_eq_true ((one_lt _ _).mpr hlt),if_pos rfl]
      refine hR _ _ ⟨rfl,?_⟩
      show _ = _ ++ List.map _ (List.filter _ [c])
      rw [List.filter_cons_of_pos (by simpa using hlt)]; rfl
    · rw [decide_eq_false (fun z=>hlt ((one_lt _ _).mp z)),if_neg (by decide)]
      refine hR _ _ ⟨rfl,?_⟩
      show _ = _ ++ List.map _ (List.filter _ [c])
      rw [List.filter_cons_of_neg (by simpa using hlt)]; simp
  · rintro ys H' ⟨rfl,rfl⟩ p hp
    rw [e2]
    refine ⟨cdiv (by omega) (by omega),lenS_go (by omega) ⟨_,rfl,mulB_r (by omega) (by omega),?_⟩⟩
    refine lenL_go SqL.here ⟨_,rfl,?_⟩
    rw [List.length_map,List.take_length]
    have:=q _ (Same.up H' hp (o:=HO.lst ((es.filter fun e=>decide (e < 97 + n % L)).map (fun c=>strV [c]))))
    unfold ob MM.cnt at this
    rw [Int.natCast_add,Int.natCast_mul] at this
    exact this
def spUpLow:Sp:=fun vs H Q _=>∃ (L:Nat) (es:List Nat) (n:Nat),vs = [.int L,.str (txt es),.int n]∧0 < L∧L ≤ 26∧es.length ≤ 26∧∀ H',Same H H'→Q (.int (ob L es (n + 1):Nat)) H'
def rdUpLow:TS:=tRet (tCall spBelow [] E0 (tCons (tVar 0) (tCons (tVar 1) (tCons (tOp rAddI (tVar 2) (tC (.int 1))) tNil))))
theorem read_upLow {N:List Str} {vs:List V} {H:Hp} {Q:VK} {E:XK} (hN:N.length = 3) (h:spUpLow vs H Q E):rdUpLow { nx:=fun _ H'=>Q .non H',rt:=Q } (L2.start N vs) H:=by
  obtain ⟨L,es,n,rfl,hL0,hL,hes,q⟩:=h
  unfold rdUpLow L2.start
  rw [hN]
  and_intros
  exact ⟨L,es,n + 1,rfl,hL0,hL,hes,q⟩
def aheadN:Option (List Nat)→Nat→Nat→Nat
  | none,w,_=>w
  | some h,w,n=>if n < h.length then w + 1 else w
def aheadB (b:Bool) (o:Option (List Nat)) (w n:Nat):Nat:=if b = true then aheadN o w n else w
def spAhead:Sp:=fun vs H Q _=>∃ (L:Nat) (es:List Nat) (o:Option (List Nat)) (w n:Nat) (b:Bool),vs = [.int L,.str (txt es),oV o,.int w,.int n,.bl b]∧0 < L∧L ≤ 26∧es.length ≤ 26∧OkO o∧∀ H',Same H H'→Q (.int (ob L es (aheadB b o w n):Nat)) H'
def rdAhead:TS:=
    tSeq (tIfS (tAnd (tB (tVar 5)) (tAnd (tB (tNotN (tVar 2))) (tTest (tOp rLtI (tVar 4) (tCB rLenS (tCons (tVar 2) tNil)))))) (tRet (tCall spBelow [] E0 (tCons (tVar 0) (tCons (tVar 1) (tCons (tOp rAddI (tVar 3) (tC (.int 1))) tNil))))) (tNext))
      (tRet (tCall spBelow [] E0 (tCons (tVar 0) (tCons (tVar 1) (tCons (tVar 3) tNil)))))
theorem read_ahead {N:List Str} {vs:List V} {H:Hp} {Q:VK} {E:XK} (hN:N.length = 6) (h:spAhead vs H Q E):rdAhead { nx:=fun _ H'=>Q .non H',rt:=Q } (L2.start N vs) H:=by
  obtain ⟨L,es,o,w,n,b,rfl,hL0,hL,hes,ho,q⟩:=h
  unfold rdAhead L2.start
  rw [hN]
  cases b with
  | false=>
    and_intros
    exact ⟨L,es,w,rfl,hL0,hL,hes,q⟩
  | true=>
    cases o with
    | none=>
      simp? [oV]
      exact ⟨L,es,w,rfl,hL0,hL,hes,q⟩
    | some h=>
      simp? [oV]
      refine lenS_go ho.2 ⟨_,rfl,?_⟩
      have ea:aheadB true (some h) w n = if n < h.length then w + 1 else w:=rfl
      rw [ea] at q
      by_cases hn:n < h.length
      · rw [if_pos (by omega)]
        rw [if_pos hn] at q
        exact ⟨L,es,w + 1,rfl,hL0,hL,hes,q⟩
      · rw [if_neg (by omega)]
        rw [if_neg hn] at q
        exact ⟨L,es,w,rfl,hL0,hL,hes,q⟩
def OkLH (lo hi:Option (List Nat)):Prop:=∀ l h,lo = some l→hi = some h→l < h
def spAskRoom (c:Addr):Sp:=fun vs H Q E=>∃ lo hi:Option (List Nat),vs = [oV lo,oV hi]∧(OkLH lo hi→Q .non H)∧(¬ OkLH lo hi→E (.ref c) none H)
def rdAskRoom (c:Addr) (E:XK) (m:List Nat):TS:=
    tIfS (tAnd (tB (tNotN (tVar 0))) (tAnd (tB (tNotN (tVar 1))) (tTest (tOp rGeS (tVar 0) (tVar 1))))) (tRaise (.ref c) E (tCons (tC (.str (txt m))) tNil)) (tNext)
theorem read_askRoom {c:Addr} {m:List Nat} {N:List Str} {vs:List V} {H:Hp} {Q:VK} {E:XK} (hN:N.length = 2) (h:spAskRoom c vs H Q E):rdAskRoom c E m { nx:=fun _ H'=>Q .non H',rt:=Q } (L2.start N vs) H:=by
  obtain ⟨lo,hi,rfl,q1,q2⟩:=h
  unfold rdAskRoom L2.start
  rw [hN]
  cases lo with
  | none=>
    simp? [oV]
    exact q1 (fun l h e=>nomatch e)
  | some l=>
    cases hi with
    | none=>
      simp? [oV]
      exact q1 (fun l h _ e=>nomatch e)
    | some h=>
      simp? [oV]
      refine ⟨l,h,rfl,rfl,_,rfl,?_⟩
      by_cases hl:l < h
      · rw [decide_eq_true hl,if_neg (by decide)]
        exact q1 (fun l' h' e1 e2=>by cases e1; cases e2; exact hl)
      · rw [decide_eq_false hl,if_pos (by decide)]
        exact ⟨by decide,q2 (fun z=>hl (z l h rfl rfl))⟩
def roomI (L:Nat) (es:List Nat) (lo hi:Option (List Nat)) (n:Nat):Int:=(ob L es (aheadN hi (highO L hi n) n):Nat) - (ob L es (valO L lo n + 1):Nat)
def roomB (b:Bool) (L:Nat) (es:List Nat) (lo hi:Option (List Nat)) (n:Nat):Int:=(ob L es (aheadB b hi (highO L hi n) n):Nat) - (ob L es (valO L lo n + 1):Nat)
theorem roomB_true (L:Nat) (es:List Nat) (lo hi:Option (List Nat)) (n:Nat):roomB true L es lo hi n = roomI L es lo hi n:=rfl
def spCounted:Sp:=fun vs H Q _=>∃ (L:Nat) (es:List Nat) (lo hi:Option (List Nat)) (n:Nat) (b:Bool),vs = [.int L,.str (txt es),oV lo,oV hi,.int n,.bl b]∧0 < L∧L ≤ 26∧es.length ≤ 26∧OkO lo∧OkO hi∧n ≤ 100000∧∀ H',Same H H'→Q (.int (roomB b L es lo hi n)) H'
def rdCounted:TS:=
    tSeq (tAsg (tCall spWhole [] E0 (tCons (tVar 0) (tCons (tVar 2) (tCons (tVar 4) tNil)))) (gName 6))
      (tSeq (tAsg (tCall spHigh [] E0 (tCons (tVar 0) (tCons (tVar 3) (tCons (tVar 4) tNil)))) (gName 7))
      (tSeq (tAsg (tCall spAhead [] E0 (tCons (tVar 0) (tCons (tVar 1) (tCons (tVar 3) (tCons (tVar 7) (tCons (tVar 4) (tCons (tVar 5) tNil))))))) (gName 8))
      (tRet (tOp rSubI (tVar 8) (tCall spUpLow [] E0 (tCons (tVar 0) (tCons (tVar 1) (tCons (tVar 6) tNil))))))))
theorem read_counted {N:List Str} {vs:List V} {H:Hp} {Q:VK} {E:XK} (hN:N.length = 9) (h:spCounted vs H Q E):rdCounted { nx:=fun _ H'=>Q .non H',rt:=Q } (L2.start N vs) H:=by
  obtain ⟨L,es,lo,hi,n,b,rfl,l0,l26,hes,olo,ohi,hn,q⟩:=h
  unfold rdCounted L2.start
  rw [hN]
  and_intros
  refine ⟨L,lo,n,rfl,l26,olo,hn,?_⟩
  refine ⟨L,hi,n,rfl,l26,ohi,hn,?_⟩
  refine ⟨L,_,hi,_,n,b,rfl,l0,l26,hes,ohi,fun H2 s2=>?_⟩
  refine ⟨L,_,_,rfl,l0,l26,hes,fun H3 s3=>?_⟩
  and_intros
  exact q _ (s2.trans s3)
structure RoomIn (L h j:Nat) (lo hi:Option (List Nat)) (n:Nat):Prop where
  l0:0 < L
  l26:L ≤ 26
  h0:0 < h
  lo:OkO lo
  hi:OkO hi
  n:n ≤ 100000
theorem endsL_len {L h j:Nat} (hL:L ≤ 26):(endsL L h j).length ≤ 26:=by
  unfold endsL
  rw [List.length_map]
  exact Nat.le_trans (List.length_filter_le _ _) (by rw [List.length_range]; omega)
def spRoom (c:Addr):Sp:=fun vs H Q E=>∃ (L h j:Nat) (lo hi:Option (List Nat)) (n:Nat),vs = [.int L,.int h,.int j,oV lo,oV hi,.int n]∧RoomIn L h j lo hi n∧(OkLH lo hi→∀ H',Same H H'→Q (.int (roomI L (endsL L h j) lo hi n)) H')∧(¬ OkLH lo hi→E (.ref c) none H)
def rdRoom (c:Addr) (E:XK):TS:=
    tSeq (tDrop (tCall (spAskRoom c) [] E (tCons (tVar 3) (tCons (tVar 4) tNil))))
      (tRet (tCall spCounted [] E0 (tCons (tVar 0) (tCons (tCall spEnds [] E0 (tCons (tVar 0) (tCons (tVar 1) (tCons (tVar 2) tNil)))) (tCons (tVar 3) (tCons (tVar 4) (tCons (tVar 5) (tCons (tC (.bl true)) tNil))))))))
theorem read_room {c:Addr} {N:List Str} {vs:List V} {H:Hp} {Q:VK} {E:XK} (hN:N.length = 6) (h:spRoom c vs H Q E):rdRoom c E { nx:=fun _ H'=>Q .non H',rt:=Q } (L2.start N vs) H:=by
  obtain ⟨L,h,j,lo,hi,n,rfl,R,q1,q2⟩:=h
  unfold rdRoom L2.start
  rw [hN]
  and_intros
  refine ⟨lo,hi,rfl,fun ok=>?_,q2⟩
  and_intros
  refine ⟨L,h,j,rfl,R.l26,R.h0,fun H1 s1=>?_⟩
  refine ⟨L,_,lo,hi,n,true,rfl,R.l0,R.l26,endsL_len R.l26,R.lo,R.hi,R.n,fun H2 s2=>?_⟩
  exact q1 ok _ (s1.trans s2)
def spNth (c:Addr):Sp:=fun vs H Q E=>∃ (L h j:Nat) (lo hi:Option (List Nat)) (n k:Nat),vs = [.int L,.int h,.int j,oV lo,oV hi,.int n,.int k]∧RoomIn L h j lo hi n∧j < h∧h + 1 ≤ L∧
  (OkLH lo hi→∀ H',Same H H'→Q (.str (txt (mk L (nth L (endsL L h j) (ob L (endsL L h j) (valO L lo n + 1) + k)) n))) H')∧(¬ OkLH lo hi→E (.ref c) none H)
def rdNth (K:PySem.W.Frag) (c:Addr) (E:XK):TS:=
    tSeq (tDrop (tCall (spAskRoom c) [] E (tCons (tVar 3) (tCons (tVar 4) tNil))))
      (tSeq (tAsg (tCall spEnds [] E0 (tCons (tVar 0) (tCons (tVar 1) (tCons (tVar 2) tNil)))) (gName 7))
      (tSeq (tAsg (tCall spWhole [] E0 (tCons (tVar 0) (tCons (tVar 3) (tCons (tVar 5) tNil)))) (gName 8))
      (tSeq (tAsg (tOp rAddI (tCall spUpLow [] E0 (tCons (tVar 0) (tCons (tVar 7) (tCons (tVar 8) tNil)))) (tVar 6)) (gName 9))
      (tSeq (tAsg (tBM K "str" rIndex (tC (.str (txt ABC))) (tCons (tOp rIxStr (tVar 7) (tOp rModI (tVar 9) (tCB rLenS (tCons (tVar 7) tNil)))) tNil)) (gName 10))
      (tRet (tCall spMarkOf [] E0 (tCons (tVar 0) (tCons (tOp rAddI (tOp rMulI (tOp rDivI (tVar 9) (tCB rLenS (tCons (tVar 7) tNil))) (tVar 0)) (tVar 10)) (tCons (tVar 5) tNil)))))))))
theorem read_nth {K:PySem.W.Frag} {c:Addr} {N:List Str} {vs:List V} {H:Hp} {Q:VK} {E:XK} (hN:N.length = 11) (h:spNth c vs H Q E):rdNth K c E { nx:=fun _ H'=>Q .non H',rt:=Q } (L2.start N vs) H:=by
  obtain ⟨L,h,j,lo,hi,n,k,rfl,R,hj,hh,q1,q2⟩:=h
  unfold rdNth L2.start
  rw [hN]
  and_intros
  refine ⟨lo,hi,rfl,fun ok=>?_,q2⟩
  have q1:=q1 ok
  and_intros
  refine ⟨L,h,j,rfl,R.l26,R.h0,fun H1 s1=>?_⟩
  have EN:=ends_ok hj hh
  have hel:=endsL_len (h:=h) (j:=j) R.l26
  generalize endsL L h j = es at q1 EN hel ⊢
  refine ⟨L,lo,n,rfl,R.l26,R.lo,R.n,?_⟩
  refine ⟨L,_,_,rfl,R.l0,R.l26,hel,fun H2 s2=>?_⟩
  and_intros
  generalize ob L es (valO L lo n + 1) = p0 at q1 ⊢
  have hp:0 < es.length:=List.length_pos_iff.mpr EN.ne
  refine ⟨rfl,lenS_go (by omega) ⟨_,rfl,by omega,?_⟩⟩
  have e1:((p0:Int) + (k:Int)) % (es.length:Int) = (((p0 + k) % es.length:Nat):Int):=by rw [← Int.natCast_add]; exact (Int.natCast_emod _ _).symm
  have e2:((p0:Int) + (k:Int)) / (es.length:Int) = (((p0 + k) / es.length:Nat):Int):=by rw [← Int.natCast_add]; exact (Int.natCast_ediv _ _).symm
  have hm:=Nat.mod_lt (p0 + k) hp
  obtain ⟨c0,hc0⟩:=some_at hm
  have hcm:=List.mem_of_getElem? hc0
  have c1:=EN.lo c0 hcm
  have c2:=EN.hi c0 hcm
  have l26:=R.l26
  rw [e1]
  refine ixS_go (by omega) (by omega) (by rw [Int.toNat_natCast]; exact hc0) (idxABC_go (by omega) (by omega) ?_)
  and_intros
  refine lenS_go (by omega) ⟨_,rfl,cdiv (by omega) (by omega),mulB_r (by omega) (by omega),?_⟩
  rw [e2]
  refine ⟨L,nth L es (p0 + k),n,?_,R.l0,R.l26,R.n,q1 _ (s1.trans s2)⟩
  unfold nth
  rw [List.getD_eq_getElem?_getD,hc0,Int.natCast_add,Int.natCast_mul]
  rfl
structure MarksOk (L:Nat) (lo hi:Option (List Nat)):Prop where
  mlo:∀ m,lo = some m→Mark L m∧m.length ≤ 1000
  mhi:∀ m,hi = some m→Mark L m∧m.length ≤ 1000
def lenO:Option (List Nat)→Nat
  | none=>0
  | some l=>l.length
structure Hands (L h j:Nat):Prop where
  l2:2 ≤ L
  l26:L ≤ 26
  hj:j < h
  hh:h + 1 ≤ L
structure LeastB (b:Bool) (L:Nat) (es:List Nat) (lo hi:Option (List Nat)) (k n:Nat):Prop where
  pos:1 ≤ n
  len:n ≤ 1 + lenO lo + k ∨ n ≤ 1 + lenO hi + k
  room:(k:Int) ≤ roomB b L es lo hi n
  less:∀ m,1 ≤ m→m < n→roomB b L es lo hi m < k
theorem MarksOk.okO {L:Nat} {lo hi:Option (List Nat)} (M:MarksOk L lo hi) (hL:L ≤ 26):OkO lo∧OkO hi:=by
  constructor
  · cases lo with
    | none=>trivial
    | some m=>exact ⟨(M.mlo m rfl).1.ls.mono hL,by have:=(M.mlo m rfl).2; omega⟩
  · cases hi with
    | none=>trivial
    | some m=>exact ⟨(M.mhi m rfl).1.ls.mono hL,by have:=(M.mhi m rfl).2; omega⟩
theorem MarksOk.roomIn {L h j n:Nat} {lo hi:Option (List Nat)} (M:MarksOk L lo hi) (D:Hands L h j) (hn:n ≤ 100000):RoomIn L h j lo hi n:=
  ⟨by have:=D.l2; omega,D.l26,by have:=D.hj; omega,(M.okO D.l26).1,(M.okO D.l26).2,hn⟩
theorem MarksOk.lens {L:Nat} {lo hi:Option (List Nat)} (M:MarksOk L lo hi):lenO lo ≤ 1000∧lenO hi ≤ 1000:=by
  constructor
  · cases lo with
    | none=>exact Nat.zero_le _
    | some m=>exact (M.mlo m rfl).2
  · cases hi with
    | none=>exact Nat.zero_le _
    | some m=>exact (M.mhi m rfl).2
theorem highO_succ (L:Nat) (o:Option (List Nat)) (n:Nat):highO L o (n + 1) = highO L o n * L + figO o n:=by
  cases o with
  | none=>show L ^ (n + 1) = L ^ n * L + 0; rw [Nat.pow_succ]; rfl
  | some l=>exact val_succ L l n
theorem figO_end {o:Option (List Nat)} {n:Nat} (h:lenO o ≤ n):figO o n = 0:=by
  cases o with
  | none=>rfl
  | some l=>show fig l n = 0; unfold fig; rw [List.getElem?_eq_none h]
theorem val_apart {L n:Nat} (hL:0 < L) {lo hi:Option (List Nat)} (M:MarksOk L lo hi) (ok:OkLH lo hi) (h1:lenO lo ≤ n) (h2:lenO hi ≤ n):valO L lo n < highO L hi n:=by
  cases lo with
  | none=>
    cases hi with
    | none=>exact Nat.pow_pos hL
    | some h=>exact val_pos hL n (M.mhi h rfl).1.ls (M.mhi h rfl).1.na (M.mhi h rfl).1.ne h2
  | some l=>
    cases hi with
    | none=>exact val_lt hL n (M.mlo l rfl).1.ls
    | some h=>exact (lt_val hL n (M.mlo l rfl).1.ls (M.mhi h rfl).1.ls (M.mlo l rfl).1.na (M.mhi h rfl).1.na h1 h2).mp (ok l h rfl rfl)
theorem val_wide {L n:Nat} (hL:2 ≤ L) {lo hi:Option (List Nat)} (M:MarksOk L lo hi) (ok:OkLH lo hi) (h1:lenO lo ≤ n) (h2:lenO hi ≤ n):∀ t,valO L lo (n + t) + (t + 1) ≤ highO L hi (n + t)
  | 0=>val_apart (by omega) M ok h1 h2
  | t + 1=>by
    have ih:=val_wide hL M ok h1 h2 t
    rw [show n + (t + 1) = n + t + 1 by omega,valO_succ,highO_succ,figO_end (by omega),figO_end (by omega),Nat.add_zero,Nat.add_zero]
    have:=Nat.mul_le_mul_right L ih
    rw [Nat.add_mul] at this
    have h3:(t + 1) * 2 ≤ (t + 1) * L:=Nat.mul_le_mul_left _ hL
    omega
theorem ob_blocks {L:Nat} {es:List Nat} (hL:0 < L) (E:MM.Ends L es) (v d:Nat):ob L es (v * L + 1) + d ≤ ob L es ((v + d) * L):=by
  have hp:0 < es.length:=List.length_pos_iff.mpr E.ne
  obtain ⟨e,he⟩:=List.exists_mem_of_ne_nil _ E.ne
  have h1:=E.lo e he
  have h2:=E.hi e he
  have m1:(v * L + 1) / L = v:=by rw [Nat.mul_comm,Nat.mul_add_div hL,Nat.div_eq_of_lt (by omega)]; rfl
  have m2:(v * L + 1) % L = 1:=by rw [Nat.mul_comm,Nat.mul_add_mod,Nat.mod_eq_of_lt (by omega)]
  unfold ob
  rw [m1,m2,Nat.mul_div_cancel _ hL,Nat.mul_mod_left,Nat.add_zero,cnt_low E.lo]
  have:MM.cnt es (97 + 1) = 0:=by
    unfold MM.cnt
    rw [List.length_eq_zero_iff,List.filter_eq_nil_iff]
    intro e he; have:=E.lo e he; simp only [decide_eq_true_eq]; omega
  rw [this,Nat.add_mul]
  have:=Nat.le_mul_of_pos_right d hp
  omega
theorem room_last {b:Bool} {L n k:Nat} {es:List Nat} (hL:2 ≤ L) (E:MM.Ends L es) {lo hi:Option (List Nat)} (M:MarksOk L lo hi) (ok:OkLH lo hi) (h1:lenO lo ≤ n) (h2:lenO hi ≤ n):(k:Int) ≤ roomB b L es lo hi (n + k + 1):=by
  have hv:=val_wide hL M ok h1 h2 k
  have hL0:0 < L:=by omega
  have ea:aheadB b hi (highO L hi (n + k + 1)) (n + k + 1) = highO L hi (n + k + 1):=by
    cases b with
    | false=>rfl
    | true=>
      cases hi with
      | none=>rfl
      | some h=>
        show (if n + k + 1 < h.length then _ else _) = _
        have h2:h.length ≤ n:=h2
        rw [if_neg (by omega)]
  unfold roomB
  rw [ea,highO_succ,valO_succ,figO_end (by omega),figO_end (by omega),Nat.add_zero,Nat.add_zero]
  have b:=ob_blocks hL0 E (valO L lo (n + k)) k
  have m:=ob_mono hL0 E (Nat.mul_le_mul_right L (show valO L lo (n + k) + k ≤ highO L hi (n + k) by omega))
  omega
theorem room_last1 {b:Bool} {L n:Nat} {es:List Nat} (hL:2 ≤ L) (E:MM.Ends L es) {lo hi:Option (List Nat)} (M:MarksOk L lo hi) (ok:OkLH lo hi) (h1:lenO lo ≤ n) (h2:lenO hi ≤ n):0 < roomB b L es lo hi (n + 1):=by
  have hv:=val_apart (by omega) M ok h1 h2
  have hL0:0 < L:=by omega
  have ea:aheadB b hi (highO L hi (n + 1)) (n + 1) = highO L hi (n + 1):=by
    cases b with
    | false=>rfl
    | true=>
      cases hi with
      | none=>rfl
      | some h=>
        show (if n + 1 < h.length then _ else _) = _
        have h2:h.length ≤ n:=h2
        rw [if_neg (by omega)]
  unfold roomB
  rw [ea,highO_succ,valO_succ,figO_end h1,figO_end h2,Nat.add_zero,Nat.add_zero]
  have b:=ob_blocks hL0 E (valO L lo n) 1
  have m:=ob_mono hL0 E (Nat.mul_le_mul_right L (show valO L lo n + 1 ≤ highO L hi n by omega))
  omega
theorem LeastB.len1 {b:Bool} {L n:Nat} {es:List Nat} {lo hi:Option (List Nat)} (A:LeastB b L es lo hi 1 n) (hL:2 ≤ L) (E:MM.Ends L es) (M:MarksOk L lo hi) (ok:OkLH lo hi):n ≤ 1 + max (lenO lo) (lenO hi):=by
  rcases Nat.lt_or_ge (1 + max (lenO lo) (lenO hi)) n with z | z
  · have r:=room_last1 (b:=b) hL E M ok (n:=max (lenO lo) (lenO hi)) (Nat.le_max_left _ _) (Nat.le_max_right _ _)
    have:=A.less (max (lenO lo) (lenO hi) + 1) (by omega) (by omega)
    omega
  · exact z
def spLeastC:Sp:=fun vs H Q _=>∃ (L:Nat) (es:List Nat) (lo hi:Option (List Nat)) (k:Nat) (b:Bool),vs = [.int L,.str (txt es),oV lo,oV hi,.int k,.bl b]∧2 ≤ L∧L ≤ 26∧es.length ≤ 26∧MM.Ends L es∧MarksOk L lo hi∧OkLH lo hi∧1 ≤ k∧k ≤ 10000∧∀ H' n,Same H H'→LeastB b L es lo hi k n→Q (.int n) H'
def rdLeastC:TS:=
    tSeq (tAsg (tC (.int 0)) (gName 6))
      (tSeq (tAsg (tC (.int 0)) (gName 7))
      (tSeq (tAsg (tC (.int 0)) (gName 8))
      (tSeq (tAsg (tCall spHigh [] E0 (tCons (tVar 0) (tCons (tVar 3) (tCons (tC (.int 0)) tNil)))) (gName 9))
      (tSeq (tWhile (tTest (tOp rLtI (tVar 7) (tVar 4))) (tSeq (tAsg (tOp rAddI (tOp rMulI (tVar 8) (tVar 0)) (tCall spFig [] E0 (tCons (tVar 2) (tCons (tVar 6) tNil)))) (gName 8))
      (tSeq (tAsg (tOp rAddI (tOp rMulI (tVar 9) (tVar 0)) (tCall spFig [] E0 (tCons (tVar 3) (tCons (tVar 6) tNil)))) (gName 9))
      (tSeq (tAsg (tOp rAddI (tVar 6) (tC (.int 1))) (gName 6))
      (tSeq (tAsg (tCall spAhead [] E0 (tCons (tVar 0) (tCons (tVar 1) (tCons (tVar 3) (tCons (tVar 9) (tCons (tVar 6) (tCons (tVar 5) tNil))))))) (gName 10))
      (tAsg (tOp rSubI (tVar 10) (tCall spUpLow [] E0 (tCons (tVar 0) (tCons (tVar 1) (tCons (tVar 8) tNil))))) (gName 7)))))))
      (tRet (tVar 6))))))
theorem read_leastC {N:List Str} {vs:List V} {H:Hp} {Q:VK} {E:XK} (hN:N.length = 11) (h:spLeastC vs H Q E):rdLeastC { nx:=fun _ H'=>Q .non H',rt:=Q } (L2.start N vs) H:=by
  obtain ⟨L,es,lo,hi,k,b,rfl,hl2,hl26,hel,EN,M,ok,hk1,hk2,q1⟩:=h
  unfold rdLeastC L2.start
  rw [hN]
  have hL0:0 < L:=by omega
  obtain ⟨okl,okh⟩:=M.okO hl26
  have hlen:=M.lens
  and_intros
  refine ⟨L,hi,0,rfl,hl26,okh,by omega,?_⟩
  have rl:=room_last (b:=b) (n:=max (lenO lo) (lenO hi)) (k:=k) hl2 EN M ok (Nat.le_max_left _ _) (Nat.le_max_right _ _)
  have mx:max (lenO lo) (lenO hi) = lenO lo ∨ max (lenO lo) (lenO hi) = lenO hi:=by omega
  generalize max (lenO lo) (lenO hi) = N1 at rl mx
  obtain ⟨N0,hN0⟩:∃ N0,N0 = N1 + k:=⟨_,rfl⟩
  rw [← hN0] at rl
  refine while_of (fun m σ H'=>∃ (n:Nat) (r:Int) (v10:Option V),Same H H'∧σ = [some (.int L),some (.str (txt es)),some (oV lo),some (oV hi),some (.int k),some (.bl b),some (.int n),some (.int r),some (.int (valO L lo n:Nat)),some (.int (highO L hi n:Nat)),v10]∧n ≤ N0 + 1∧m = N0 + 1 - n∧((n = 0∧r = 0) ∨ (1 ≤ n∧r = roomB b L es lo hi n))∧∀ m',1 ≤ m'→m' < n→roomB b L es lo hi m' < k) (N0 + 1)
    ⟨0,0,none,Same.refl _,by rw [valO_zero]; rfl,by omega,by omega,.inl ⟨rfl,rfl⟩,fun m' h1 h2=>by omega⟩ ?_
  rintro m σ H2 ⟨n,r,v10,s2,rfl,hn,hm,hr,hp⟩ R hgo hstop
  and_intros
  by_cases hr1:r < k
  · rw [decide_eq_true hr1]
    refine hgo H2 ?_
    have hnN:n ≤ N0:=by
      by_cases z:n = N0 + 1
      · subst z
        rcases hr with ⟨z,_⟩ | ⟨_,z⟩
        · omega
        · omega
      · omega
    and_intros
    refine ⟨mulB_r (by omega) (by omega),lo,n,rfl,okl,?_⟩
    and_intros
    refine ⟨mulB_r (by omega) (by omega),hi,n,rfl,okh,?_⟩
    and_intros
    have e1:((valO L lo n:Nat):Int) * (L:Int) + (figO lo n:Nat) = (valO L lo (n + 1):Nat):=by rw [valO_succ,Int.natCast_add,Int.natCast_mul]
    have e2:((highO L hi n:Nat):Int) * (L:Int) + (figO hi n:Nat) = (highO L hi (n + 1):Nat):=by rw [highO_succ,Int.natCast_add,Int.natCast_mul]
    have e3:(n:Int) + 1 = ((n + 1:Nat):Int):=rfl
    rw [e1,e2,e3]
    refine ⟨L,es,hi,_,n + 1,b,rfl,hL0,hl26,hel,okh,fun H3 s3=>?_⟩
    refine ⟨L,es,_,rfl,hL0,hl26,hel,fun H4 s4=>?_⟩
    and_intros
    refine ⟨N0 + 1 - (n + 1),by omega,(s2.trans s3).trans s4,n + 1,roomB b L es lo hi (n + 1),_,rfl,by omega,rfl,.inr ⟨by omega,rfl⟩,fun m' h1 h2=>?_⟩
    by_cases z:m' = n
    · subst z
      rcases hr with ⟨z,_⟩ | ⟨_,z⟩
      · omega
      · omega
    · exact hp m' h1 (by omega)
  · rw [decide_eq_false hr1]
    refine hstop H2 ?_
    and_intros
    rcases hr with ⟨z,z2⟩ | ⟨z,rfl⟩
    · omega
    · exact q1 _ n s2 ⟨z,by omega,by omega,hp⟩
def spLeast (c:Addr):Sp:=fun vs H Q E=>∃ (L h j:Nat) (lo hi:Option (List Nat)) (k:Nat),vs = [.int L,.int h,.int j,oV lo,oV hi,.int k]∧Hands L h j∧MarksOk L lo hi∧1 ≤ k∧k ≤ 10000∧(OkLH lo hi→∀ H' n,Same H H'→LeastB true L (endsL L h j) lo hi k n→Q (.int n) H')∧(¬ OkLH lo hi→E (.ref c) none H)
def rdLeast (c:Addr) (E:XK):TS:=
    tSeq (tDrop (tCall (spAskRoom c) [] E (tCons (tVar 3) (tCons (tVar 4) tNil))))
      (tRet (tCall spLeastC [] E0 (tCons (tVar 0) (tCons (tCall spEnds [] E0 (tCons (tVar 0) (tCons (tVar 1) (tCons (tVar 2) tNil)))) (tCons (tVar 3) (tCons (tVar 4) (tCons (tVar 5) (tCons (tC (.bl true)) tNil))))))))
theorem read_least {c:Addr} {N:List Str} {vs:List V} {H:Hp} {Q:VK} {E:XK} (hN:N.length = 6) (h:spLeast c vs H Q E):rdLeast c E { nx:=fun _ H'=>Q .non H',rt:=Q } (L2.start N vs) H:=by
  obtain ⟨L,h,j,lo,hi,k,rfl,D,M,hk1,hk2,q1,q2⟩:=h
  unfold rdLeast L2.start
  rw [hN]
  and_intros
  refine ⟨lo,hi,rfl,fun ok=>?_,q2⟩
  and_intros
  refine ⟨L,h,j,rfl,D.l26,by have:=D.hj; omega,fun H1 s1=>?_⟩
  exact ⟨L,_,lo,hi,k,true,rfl,D.l2,D.l26,endsL_len D.l26,ends_ok (K:=L) D.hj D.hh,M,ok,hk1,hk2,fun H2 n s2 LN=>q1 ok _ n (s1.trans s2) LN⟩
def toldI:Option (List Nat)→Option (List Nat)→Int→Int
  | some _,none,_=>0
  | none,some _,z=>z - 1
  | _,_,z=>(z - 1) / 2
def spTold:Sp:=fun vs H Q _=>∃ (lo hi:Option (List Nat)) (z:Int),vs = [oV lo,oV hi,.int z]∧Q (.int (toldI lo hi z)) H
def rdTold:TS:=
    tSeq (tIfS (tAnd (tB (tIsN (tVar 1))) (tB (tNotN (tVar 0)))) (tRet (tC (.int 0))) (tNext))
      (tSeq (tIfS (tAnd (tB (tIsN (tVar 0))) (tB (tNotN (tVar 1)))) (tRet (tOp rSubI (tVar 2) (tC (.int 1)))) (tNext))
      (tRet (tOp rDivI (tOp rSubI (tVar 2) (tC (.int 1))) (tC (.int 2)))))
theorem read_told {N:List Str} {vs:List V} {H:Hp} {Q:VK} {E:XK} (hN:N.length = 3) (h:spTold vs H Q E):rdTold { nx:=fun _ H'=>Q .non H',rt:=Q } (L2.start N vs) H:=by
  obtain ⟨lo,hi,z,rfl,q⟩:=h
  unfold rdTold L2.start
  rw [hN]
  cases lo <;> cases hi
  · simp? [oV]
    exact ⟨cdiv (by decide) (by decide),q⟩
  · simp? [oV]
    exact q
  · simp? [oV]
    exact q
  · simp? [oV]
    exact ⟨cdiv (by decide) (by decide),q⟩
structure Found (L:Nat) (es:List Nat) (lo hi:Option (List Nat)) (n w:Nat) (m:List Nat):Prop where
  least:LeastB true L es lo hi 1 n
  eq:m = low L w n
  own:ow L es w = true
  ge:valO L lo n + 1 ≤ w
  lt:w < aheadN hi (highO L hi n) n
  at_:(ob L es w:Int) = (ob L es (valO L lo n + 1):Int) + toldI lo hi (roomI L es lo hi n)
def spBetween (c:Addr):Sp:=fun vs H Q E=>∃ (L h j:Nat) (lo hi:Option (List Nat)),vs = [.int L,.int h,.int j,oV lo,oV hi]∧Hands L h j∧MarksOk L lo hi∧(OkLH lo hi→∀ H' n w m,Same H H'→Found L (endsL L h j) lo hi n w m→Q (.str (txt m)) H')∧(¬ OkLH lo hi→E (.ref c) none H)
def rdBetween (c:Addr) (E:XK):TS:=
    tSeq (tAsg (tCall (spLeast c) [] E (tCons (tVar 0) (tCons (tVar 1) (tCons (tVar 2) (tCons (tVar 3) (tCons (tVar 4) (tCons (tC (.int 1)) tNil))))))) (gName 5))
      (tSeq (tAsg (tCall (spRoom c) [] E (tCons (tVar 0) (tCons (tVar 1) (tCons (tVar 2) (tCons (tVar 3) (tCons (tVar 4) (tCons (tVar 5) tNil))))))) (gName 6))
      (tRet (tCall (spNth c) [] E (tCons (tVar 0) (tCons (tVar 1) (tCons (tVar 2) (tCons (tVar 3) (tCons (tVar 4) (tCons (tVar 5) (tCons (tCall spTold [] E0 (tCons (tVar 3) (tCons (tVar 4) (tCons (tVar 6) tNil)))) tNil))))))))))
theorem told_in (lo hi:Option (List Nat)) {z:Int} (h:0 < z):0 ≤ toldI lo hi z∧toldI lo hi z < z:=by
  cases lo <;> cases hi <;> simp only [toldI] <;> omega
theorem read_between {c:Addr} {N:List Str} {vs:List V} {H:Hp} {Q:VK} {E:XK} (hN:N.length = 7) (h:spBetween c vs H Q E):rdBetween c E { nx:=fun _ H'=>Q .non H',rt:=Q } (L2.start N vs) H:=by
  obtain ⟨L,h,j,lo,hi,rfl,D,M,q1,q2⟩:=h
  unfold rdBetween L2.start
  rw [hN]
  and_intros
  refine ⟨L,h,j,lo,hi,1,rfl,D,M,by omega,by omega,fun ok H1 n s1 LN=>?_,q2⟩
  have hl2:=D.l2
  have hL0:0 < L:=by omega
  have EN:=ends_ok (K:=L) D.hj D.hh
  have hlen:=M.lens
  have hn:n ≤ 1002:=by have:=LN.len; omega
  have Rm:=M.roomIn (n:=n) D (by omega)
  refine ⟨L,h,j,lo,hi,n,rfl,Rm,fun _ H2 s2=>?_,fun z=>absurd ok z⟩
  refine ⟨lo,hi,_,rfl,?_⟩
  have LNr:0 < roomI L (endsL L h j) lo hi n:=by have:=LN.room; rw [roomB_true] at this; omega
  obtain ⟨t0,t1⟩:=told_in lo hi LNr
  obtain ⟨k,hk⟩:=Int.eq_ofNat_of_zero_le t0
  refine ⟨L,h,j,lo,hi,n,k,by rw [hk],Rm,D.hj,D.hh,fun _ H3 s3=>?_,fun z=>absurd ok z⟩
  have q:=q1 ok H3 n (nth L (endsL L h j) (ob L (endsL L h j) (valO L lo n + 1) + k)) (low L (nth L (endsL L h j) (ob L (endsL L h j) (valO L lo n + 1) + k)) n) ((s1.trans s2).trans s3)
  obtain ⟨n',rfl⟩:∃ n',n = n' + 1:=⟨n - 1,by have:=LN.pos; omega⟩
  rw [mk_low hL0 (nth_mod EN _)]
  obtain ⟨o1,o2⟩:=ob_nth hL0 EN (ob L (endsL L h j) (valO L lo (n' + 1) + 1) + k)
  have hri:roomI L (endsL L h j) lo hi (n' + 1) = (ob L (endsL L h j) (aheadN hi (highO L hi (n' + 1)) (n' + 1)):Nat) - (ob L (endsL L h j) (valO L lo (n' + 1) + 1):Nat):=rfl
  obtain ⟨i1,i2⟩:=nth_in hL0 EN (A:=valO L lo (n' + 1) + 1) (B:=aheadN hi (highO L hi (n' + 1)) (n' + 1)) (p:=ob L (endsL L h j) (valO L lo (n' + 1) + 1) + k) (by omega) (by omega)
  exact q ⟨LN,rfl,o2,i1,i2,by rw [o1,hk]; omega⟩
theorem own_iff {L h j:Nat} (hL:0 < L) (w:Nat):ow L (endsL L h j) w = true ↔ 0 < w % L∧(w % L - 1) % h = j:=by
  unfold ow
  rw [decide_eq_true_iff,endsL_mem]
  have:=Nat.mod_lt w hL
  constructor
  · rintro ⟨i,h1,h2,h3⟩
    have:w % L = i + 1:=by omega
    rw [this]
    exact ⟨by omega,h2⟩
  · rintro ⟨h1,h2⟩
    exact ⟨w % L - 1,by omega,h2,by omega⟩
theorem low_iff {L w n:Nat} (hL:0 < L) (hw:w < L ^ (n + 1)) (h0:w % L ≠ 0) {l:List Nat} (hl:Ls L l):l < low L w (n + 1) ↔ val L l (n + 1) + 1 ≤ w:=by
  rw [low_val hL (n + 1) hl (low_ls hL _ _) (fun c hc=>by rw [low_last hL] at hc; have:=Option.some.inj hc; omega) (low_length _ _ _),low_val_eq hL,Nat.mod_eq_of_lt hw]
  omega
theorem high_iff {L w n:Nat} (hL:0 < L) (hw:w < L ^ n) {h:List Nat} (hh:Ls L h) (na:Na h):low L w n < h ↔ w < aheadN (some h) (val L h n) n:=by
  rw [high_val hL n hh (low_ls hL _ _) na (low_length _ _ _),low_val_eq hL,Nat.mod_eq_of_lt hw]
  have e:aheadN (some h) (val L h n) n = if n < h.length then val L h n + 1 else val L h n:=rfl
  rw [e]
  by_cases z:n < h.length
  · rw [if_pos z]; omega
  · rw [if_neg z]; omega
theorem ahead_le {L:Nat} (n:Nat) (hL:0 < L) {lo hi:Option (List Nat)} (M:MarksOk L lo hi):aheadN hi (highO L hi n) n ≤ L ^ n:=by
  cases hi with
  | none=>exact Nat.le_refl _
  | some h=>
    have v:=val_lt hL n (M.mhi h rfl).1.ls
    show (if n < h.length then val L h n + 1 else val L h n) ≤ L ^ n
    split <;> omega
theorem even_ge {i k R:Nat} (h:k ≤ R):i + 1 ≤ (i + 1) * (R + 1) / (k + 1):=by
  rw [Nat.le_div_iff_mul_le (by omega)]
  exact Nat.mul_le_mul_left _ (by omega)
theorem even_lt {i k R:Nat} (h:i < k):(i + 1) * (R + 1) / (k + 1) < R + 1:=by
  rw [Nat.div_lt_iff_lt_mul (by omega),Nat.mul_comm (R + 1)]
  exact Nat.mul_lt_mul_of_pos_right (by omega) (by omega)
theorem even_rise {i k R:Nat} (h:k ≤ R):(i + 1) * (R + 1) / (k + 1) + 1 ≤ (i + 1 + 1) * (R + 1) / (k + 1):=by
  rw [Nat.le_div_iff_mul_le (by omega),Nat.add_mul,Nat.one_mul,Nat.add_mul (i + 1) 1,Nat.one_mul]
  have:=Nat.div_mul_le_self ((i + 1) * (R + 1)) (k + 1)
  omega
def spSpread:Sp:=fun vs H Q _=>∃ (m W:Nat),vs = [.int m,.int W]∧m ≤ 100000∧∀ p,H p = none→Q (.ref p) (upd H p (.lst ((List.range m).map fun (k:Nat)=>V.int (((k + 1) * W / (m + 1):Nat):Int))))
def rdSpread:TS:=tRet (tComp (iRng1 (tCons (tVar 0) tNil)) [1,0] tYes (tOp rDivI (tOp rMulI (tOp rAddI (tVar 0) (tC (.int 1))) (tVar 1)) (tOp rAddI (tVar 2) (tC (.int 1)))))
theorem read_spread {N:List Str} {vs:List V} {H:Hp} {Q:VK} {E:XK} (hN:N.length = 2) (h:spSpread vs H Q E):rdSpread { nx:=fun _ H'=>Q .non H',rt:=Q } (L2.start N vs) H:=by
  obtain ⟨m,W,rfl,hm,q⟩:=h
  unfold rdSpread L2.start
  rw [hN]
  and_intros
  refine comp_r1 (j:=m) (fun Q h=>⟨_,rfl,h⟩) (by omega) (by omega) (Nat.le_trans (show (m:Int).toNat ≤ 100000 by omega) (by decide))
    (fun i ys H'=>H' = H∧ys = (List.range i).map fun (k:Nat)=>V.int (((k + 1) * W / (m + 1):Nat):Int)) ⟨rfl,rfl⟩
    (fun i ys H' _ p=>by rw [p.2,List.length_map,List.length_range]; exact Nat.le_refl _) ?_ ?_
  · rintro i ys H' hi ⟨rfl,rfl⟩ R hR
    and_intros
    refine ⟨mulB_l (by omega) (by omega),cdiv (by omega) (by omega),hR _ _ ⟨rfl,?_⟩⟩
    rw [List.range_succ,List.map_append,List.map_cons,List.map_nil,Int.natCast_ediv,Int.natCast_mul]
    rfl
  · rintro ys H' ⟨rfl,rfl⟩ p hp
    rw [Int.toNat_natCast]
    exact q p hp
structure IsRen (L m n:Nat):Prop where
  lt:m < L ^ n
  less:∀ i,i < n→L ^ i ≤ m
theorem IsRen.one {L m a b:Nat} (A:IsRen L m a) (B:IsRen L m b):a = b:=by
  rcases Nat.lt_trichotomy a b with h | h | h
  · have:=B.less a h; have:=A.lt; omega
  · exact h
  · have:=A.less b h; have:=B.lt; omega
theorem IsRen.le {L m n:Nat} (A:IsRen L m n) (hL:2 ≤ L):n ≤ m:=by
  rcases Nat.lt_or_ge m n with h | h
  · have h1:=A.less m h
    have:=Nat.lt_pow_self (n:=m) (show 1 < L by omega)
    omega
  · exact h
def spRenLong:Sp:=fun vs H Q _=>∃ (L m:Nat),vs = [.int L,.int m]∧2 ≤ L∧L ≤ 26∧∀ n,IsRen L m n→Q (.int n) H
def rdRenLong:TS:=
    tSeq (tAsg (tC (.int 0)) (gName 2))
      (tSeq (tAsg (tC (.int 1)) (gName 3))
      (tSeq (tWhile (tTest (tOp rLtI (tOp rSubI (tVar 3) (tC (.int 1))) (tVar 1))) (tSeq (tAsg (tOp rMulI (tVar 3) (tVar 0)) (gName 3))
      (tAsg (tOp rAddI (tVar 2) (tC (.int 1))) (gName 2))))
      (tRet (tVar 2))))
theorem read_renLong {N:List Str} {vs:List V} {H:Hp} {Q:VK} {E:XK} (hN:N.length = 4) (h:spRenLong vs H Q E):rdRenLong { nx:=fun _ H'=>Q .non H',rt:=Q } (L2.start N vs) H:=by
  obtain ⟨L,m,rfl,hL,hL26,q⟩:=h
  unfold rdRenLong L2.start
  rw [hN]
  and_intros
  refine while_of (fun x σ H'=>H' = H∧∃ (n:Nat),σ = [some (.int L),some (.int m),some (.int n),some (.int (L ^ n:Nat))]∧x = m + 1 - n∧∀ i,i < n→L ^ i ≤ m) (m + 1) ⟨rfl,0,rfl,by omega,fun i hi=>by omega⟩ ?_
  rintro x σ H2 ⟨rfl,n,rfl,hx,hp⟩ R hgo hstop
  and_intros
  have hpow:=Nat.lt_pow_self (n:=n) (show 1 < L by omega)
  by_cases h1:((L ^ n:Nat):Int) - 1 < (m:Int)
  · rw [decide_eq_true h1]
    refine hgo _ ?_
    and_intros
    refine ⟨mulB_r (by omega) (by omega),m + 1 - (n + 1),by omega,n + 1,by rw [Nat.pow_succ,Int.natCast_mul]; rfl,rfl,fun i hi=>?_⟩
    by_cases e:i = n
    · subst e; omega
    · exact hp i (by omega)
  · rw [decide_eq_false h1]
    refine hstop _ ?_
    and_intros
    exact q n ⟨by omega,hp⟩
def renW (L m n k:Nat):Nat:=(k + 1) * L ^ n / (m + 1)
def renL (L m n:Nat):List (List Nat):=(List.range m).map fun k=>mk L (renW L m n k) n
theorem renW_in {L m n k:Nat} (R:IsRen L m n) (hk:k < m):0 < renW L m n k∧renW L m n k < L ^ n:=by
  have h:=R.lt
  obtain ⟨r,hr⟩:∃ r,L ^ n = r + 1:=⟨L ^ n - 1,by omega⟩
  unfold renW
  rw [hr]
  have:=even_ge (i:=k) (k:=m) (R:=r) (by omega)
  have:=even_lt (R:=r) hk
  omega
theorem renW_rise {L m n k:Nat} (R:IsRen L m n):renW L m n k < renW L m n (k + 1):=by
  have h:=R.lt
  obtain ⟨r,hr⟩:∃ r,L ^ n = r + 1:=⟨L ^ n - 1,by omega⟩
  unfold renW
  rw [hr]
  have:=even_rise (i:=k) (k:=m) (R:=r) (by omega)
  omega
theorem renW_lt {L m n i:Nat} (R:IsRen L m n):∀ {j:Nat},i < j→renW L m n i < renW L m n j
  | j + 1,h=>by
    have h1:=renW_rise (k:=j) R
    rcases Nat.eq_or_lt_of_le (Nat.le_of_lt_succ h) with e | h2
    · subst e; exact h1
    · exact Nat.lt_trans (renW_lt R h2) h1
theorem renL_lt {L m n:Nat} (hL:0 < L) (R:IsRen L m n):(renL L m n).Pairwise (· < ·):=by
  unfold renL
  rw [List.pairwise_map]
  refine List.Pairwise.imp_of_mem ?_ (List.pairwise_lt_range (n:=m))
  intro i j hi hj hij
  have hi:=List.mem_range.mp hi
  have hj:=List.mem_range.mp hj
  have a:=renW_in R hi
  have b:=renW_in R hj
  have c:=renW_lt R hij
  rw [lt_val hL n (mk_ls hL _ _) (mk_ls hL _ _) (mk_na _ _ _) (mk_na _ _ _) (mk_len _ _ _) (mk_len _ _ _),mk_val hL a.2,mk_val hL b.2]
  exact c
theorem renL_mem {L m n:Nat} (hL:0 < L) (R:IsRen L m n):∀ x ∈ renL L m n,Mark L x∧x.length ≤ n:=fun x hx=>by
  unfold renL at hx
  obtain ⟨k,hk,rfl⟩:=List.mem_map.mp hx
  have a:=renW_in R (List.mem_range.mp hk)
  exact ⟨mk_mark hL a.1 a.2,mk_len _ _ _⟩
theorem renL_len (L m n:Nat):(renL L m n).length = m:=by
  unfold renL
  rw [List.length_map,List.length_range]
theorem renL_get {L m n k:Nat} (h:k < m):(renL L m n)[k]? = some (mk L (renW L m n k) n):=by
  unfold renL
  rw [List.getElem?_map,List.getElem?_range h]
  rfl
def spRenewed:Sp:=fun vs H Q _=>∃ (L m:Nat),vs = [.int L,.int m]∧2 ≤ L∧L ≤ 26∧m ≤ 10000∧∀ H' n p,IsRen L m n→Same H H'→H' p = none→Q (.ref p) (upd H' p (.lst ((renL L m n).map strV)))
def rdRenewed (K:PySem.W.Frag):TS:=
    tSeq (tAsg (tCall spRenLong [] E0 (tCons (tVar 0) (tCons (tVar 1) tNil))) (gName 2))
      (tRet (tComp (iList K (tCall spSpread [] E0 (tCons (tVar 1) (tCons (tCall spPower [] E0 (tCons (tVar 0) (tCons (tVar 2) tNil))) tNil)))) [0,2] tYes (tCall spMarkOf [] E0 (tCons (tVar 1) (tCons (tVar 0) (tCons (tVar 2) tNil))))))
theorem read_renewed {K:PySem.W.Frag} {N:List Str} {vs:List V} {H:Hp} {Q:VK} {E:XK} (hN:N.length = 3) (h:spRenewed vs H Q E):rdRenewed K { nx:=fun _ H'=>Q .non H',rt:=Q } (L2.start N vs) H:=by
  obtain ⟨L,m,rfl,hL,hL26,hm,q⟩:=h
  unfold rdRenewed L2.start
  rw [hN]
  and_intros
  refine ⟨L,m,rfl,hL,hL26,fun n R=>?_⟩
  have hn:=R.le hL
  refine comp_by fun R0 hR0=>?_
  simp? [iList]
  refine ⟨L,n,rfl,hL26,by omega,?_⟩
  refine ⟨m,L ^ n,rfl,by omega,fun p hp=>?_⟩
  refine ⟨_,rfl,⟨_,SqL.here⟩,?_⟩
  rw [hR0]
  refine comp_lst (xs:=(List.range m).map fun (k:Nat)=>V.int (((k + 1) * L ^ n / (m + 1):Nat):Int)) (fun i ys H'=>H' = upd H p (.lst ((List.range m).map fun (k:Nat)=>V.int (((k + 1) * L ^ n / (m + 1):Nat):Int)))∧ys = ((List.range i).map fun k=>mk L (renW L m n k) n).map strV) ⟨rfl,rfl⟩
    (fun i ys H' _ p=>⟨by rw [p.1]; exact SqL.here,by rw [p.2,List.length_map,List.length_map,List.length_range]; exact Nat.le_refl _⟩) (by rw [List.length_map,List.length_range,sizeLine_eq]; omega) ?_ ?_
  · rintro i x ys H' hx ⟨rfl,rfl⟩ R1 hR1
    rw [List.getElem?_map] at hx
    have hik:i < m:=by
      rcases Nat.lt_or_ge i m with z | z
      · exact z
      · rw [List.getElem?_eq_none (by rw [List.length_range]; exact z)] at hx; cases hx
    rw [List.getElem?_range hik] at hx
    cases Option.some.inj hx
    and_intros
    refine ⟨L,renW L m n i,n,rfl,by omega,hL26,by omega,hR1 _ _ ⟨rfl,?_⟩⟩
    rw [List.range_succ,List.map_append,List.map_append,List.map_cons,List.map_nil,List.map_cons,List.map_nil]
    rfl
  · rintro ys H' ⟨rfl,rfl⟩ p2 hp2
    rw [List.length_map,List.length_range]
    exact q _ n p2 R (Same.up _ hp) hp2
def Prs (H:Hp):List V→List (V × V)→Prop
  | [],[]=>True
  | x :: xs,p :: ps=>(∃ t,x = .ref t∧H t = some (.tup [p.1,p.2]))∧Prs H xs ps
  | _,_=>False
theorem Prs.keep {H H':Hp} (k:∀ t ys,H t = some (.tup ys)→H' t = some (.tup ys)):∀ {xs:List V} {ps:List (V × V)},Prs H xs ps→Prs H' xs ps
  | [],[],_=>trivial
  | [],_ :: _,h=>h.elim
  | _ :: _,[],h=>h.elim
  | _ :: _,_ :: _,⟨⟨t,e,h⟩,r⟩=>⟨⟨t,e,k t _ h⟩,Prs.keep k r⟩
theorem Prs.same {H H':Hp} {xs:List V} {ps:List (V × V)} (h:Prs H xs ps) (s:Same H H'):Prs H' xs ps:=h.keep fun t ys e=>s t _ e
theorem Prs.app {H:Hp}:∀ {xs:List V} {ps:List (V × V)} {ys:List V} {qs:List (V × V)},Prs H xs ps→Prs H ys qs→Prs H (xs ++ ys) (ps ++ qs)
  | [],[],_,_,_,h=>h
  | [],_ :: _,_,_,h,_=>h.elim
  | _ :: _,[],_,_,h,_=>h.elim
  | _ :: _,_ :: _,_,_,⟨a,r⟩,h=>⟨a,Prs.app r h⟩
theorem Prs.len {H:Hp}:∀ {xs:List V} {ps:List (V × V)},Prs H xs ps→xs.length = ps.length
  | [],[],_=>rfl
  | [],_ :: _,h=>h.elim
  | _ :: _,[],h=>h.elim
  | _ :: _,_ :: _,⟨_,r⟩=>by rw [List.length_cons,List.length_cons,Prs.len r]
theorem Prs.get {H:Hp}:∀ {xs:List V} {ps:List (V × V)} {i:Nat} {x:V},Prs H xs ps→xs[i]? = some x→∃ p t,ps[i]? = some p∧x = .ref t∧H t = some (.tup [p.1,p.2])
  | [],_,_,_,_,e=>by simp at e
  | _ :: _,[],_,_,h,_=>h.elim
  | _ :: _,p :: _,0,_,⟨⟨t,e1,h⟩,_⟩,e=>by
    have:_ = _:=Option.some.inj e
    subst this
    exact ⟨p,t,rfl,e1,h⟩
  | _ :: _,_ :: _,i + 1,_,⟨_,r⟩,e=>by
    obtain ⟨p,t,a,b,c⟩:=Prs.get r (i:=i) (by simpa using e)
    exact ⟨p,t,by simpa using a,b,c⟩
def flatD:V→PyData
  | .bl b=>.bool b
  | .int i=>.int i
  | .str x=>.str x
  | _=>.none
inductive OkV:V→Prop where
  | non:OkV .non
  | bl (b:Bool):OkV (.bl b)
  | str {l:List Nat} (h:PyData.strOk (txt l) = true):OkV (.str (txt l))
theorem OkV.dat {K:PySem.W.Frag} {H:Hp} {v:V} (h:OkV v):Dat K H v (flatD v):=by
  cases h with
  | non=>exact .non
  | bl b=>exact .bl b
  | str h=>exact .str _
def pairD (ps:List (V × V)):List PyData:=ps.map fun p=>.tuple [flatD p.1,flatD p.2]
theorem Prs.dat {K:PySem.W.Frag} {H:Hp}:∀ {xs:List V} {ps:List (V × V)},Prs H xs ps→(∀ p ∈ ps,OkV p.1∧OkV p.2)→DatAll K H xs (pairD ps)
  | [],[],_,_=>.nil
  | [],_ :: _,h,_=>h.elim
  | _ :: _,[],h,_=>h.elim
  | _ :: _,p :: _,⟨⟨t,e,h⟩,r⟩,ok=>by
    subst e
    have o:=ok p List.mem_cons_self
    exact .cons (.tup (SqT.of h) (.cons o.1.dat (.cons o.2.dat .nil))) (Prs.dat r fun q hq=>ok q (List.mem_cons_of_mem _ hq))
theorem lay_flat {v:V} (h:OkV v):PyData.canLay0 (flatD v) = true∧PyData.depth (flatD v) = 0:=by
  cases h with
  | non=>exact ⟨by simp [flatD,PyData.canLay0],by simp [flatD,PyData.depth]⟩
  | bl b=>exact ⟨by simp [flatD,PyData.canLay0],by simp [flatD,PyData.depth]⟩
  | str h=>exact ⟨by simp [flatD,PyData.canLay0,h],by simp [flatD,PyData.depth]⟩
theorem lay_pairs:∀ {ps:List (V × V)},(∀ p ∈ ps,OkV p.1∧OkV p.2)→PyData.canLayAll0 (pairD ps) = true∧PyData.depthAll (pairD ps) ≤ 1
  | [],_=>⟨by simp [pairD,PyData.canLayAll0],by simp [pairD,PyData.depthAll]⟩
  | p :: ps,ok=>by
    obtain ⟨a,b⟩:=lay_pairs fun q hq=>ok q (List.mem_cons_of_mem _ hq)
    obtain ⟨o1,o2⟩:=ok p List.mem_cons_self
    obtain ⟨c1,d1⟩:=lay_flat o1
    obtain ⟨c2,d2⟩:=lay_flat o2
    have e:pairD (p :: ps) = .tuple [flatD p.1,flatD p.2] :: pairD ps:=rfl
    rw [e]
    refine ⟨by simp [PyData.canLayAll0,PyData.canLay0,c1,c2,a],?_⟩
    simp only [PyData.depthAll,PyData.depth,d1,d2]
    omega
theorem shaped_pairs {ps:List (V × V)} (ok:∀ p ∈ ps,OkV p.1∧OkV p.2):SeqAt.shaped (.list (pairD ps)) = true:=by
  obtain ⟨a,b⟩:=lay_pairs ok
  unfold SeqAt.shaped
  rw [Bool.and_eq_true]
  refine ⟨by simpa [PyData.canLay0] using a,?_⟩
  rw [decide_eq_true_eq]
  simp only [PyData.depth]
  omega
def kP (k:List Nat × Bool):V × V:=(strV k.1,.bl k.2)
def stand (ks:List (List Nat × Bool)):Nat:=(ks.filter fun k=>k.2).length
def rowsFrom (fr:List (List Nat)):Nat→List (List Nat × Bool)→List (V × V)
  | _,[]=>[]
  | g,(m,true) :: ks=>(strV m,strV (fr.getD g [])) :: rowsFrom fr (g + 1) ks
  | g,(m,false) :: ks=>(strV m,.non) :: rowsFrom fr g ks
theorem stand_cons (m:List Nat) (b:Bool) (ks:List (List Nat × Bool)):stand ((m,b) :: ks) = stand ks + (if b = true then 1 else 0):=by
  unfold stand
  cases b
  · rw [List.filter_cons_of_neg (by simp)]; rfl
  · rw [List.filter_cons_of_pos (by simp)]; rfl
theorem stand_le (ks:List (List Nat × Bool)):stand ks ≤ ks.length:=List.length_filter_le _ _
theorem comp_stand {K:PySem.W.Frag} {tl:TE} {p:Addr} {xs:List V} {σ:St} {H:Hp} {Q:VK} {ks:List (List Nat × Bool)} (ha:∀ Q:VK,Q (.ref p) H→tl σ H Q) (hq:SqL K H p xs) (hp:Prs H xs (ks.map kP)) (hn:ks.length ≤ 100000)
    (hd:∀ r,H r = none→Q (.ref r) (upd H r (.lst (((ks.filter fun k=>k.2).map fun k=>k.1).map strV)))):tComp2 K (iList K tl) [] (tB (tVar 1)) (tVar 0) σ H Q:=by
  have hl:=hp.len
  rw [List.length_map] at hl
  refine comp2_l ha hq (fun i ys H'=>H' = H∧ys = (((ks.take i).filter fun k=>k.2).map fun k=>k.1).map strV) ⟨rfl,rfl⟩ (fun i ys H' _ h=>⟨by rw [h.1]; exact hq,?_⟩) (by rw [hl,sizeLine_eq]; omega) ?_ ?_
  · rw [h.2,List.length_map,List.length_map]
    exact Nat.le_trans (List.length_filter_le _ _) (by rw [List.length_take]; omega)
  · rintro i x ys H' hx ⟨rfl,rfl⟩
    obtain ⟨q,t,e1,rfl,e2⟩:=hp.get hx
    rw [List.getElem?_map] at e1
    obtain ⟨⟨m,b⟩,e3,rfl⟩:=Option.map_eq_some_iff.mp e1
    refine ⟨t,_,_,rfl,SqT.of e2,fun R hR=>?_⟩
    simp? [kP]
    rw [List.take_succ,e3] at hR
    cases b
    · rw [if_neg (by decide)]
      exact hR _ _ ⟨rfl,by simp⟩
    · rw [if_pos rfl]
      exact hR _ _ ⟨rfl,by simp [strV]⟩
  · rintro ys H' ⟨rfl,rfl⟩ r hr
    have:=hd r hr
    rw [hl,List.take_length]
    exact this
def spRows (K:PySem.W.Frag):Sp:=fun vs H Q _=>∃ (L:Nat) (p:Addr) (ks:List (List Nat × Bool)),vs = [.int L,.ref p]∧2 ≤ L∧L ≤ 26∧ks.length ≤ 1000∧(∃ xs,SqL K H p xs∧Prs H xs (ks.map kP))∧
  ∀ H' r ys n,IsRen L (stand ks) n→Same H H'→H r = none→H' r = some (.lst ys)→Prs H' ys (rowsFrom (renL L (stand ks) n) 0 ks)→Q (.ref r) H'
def rdRows (K:PySem.W.Frag):TS:=
    tSeq (tAsg (tCall spRenewed [] E0 (tCons (tVar 0) (tCons (tCB (rLenL K) (tCons (tComp2 K (iList K (tVar 1)) [] (tB (tVar 1)) (tVar 0)) tNil)) tNil))) (gName 2))
      (tSeq (tAsg (tLst tNil) (gName 3))
      (tSeq (tAsg (tC (.int 0)) (gName 4))
      (tSeq (tFor (iList K (tVar 1)) (gTup K 2 (gCons (gName 5) (gCons (gName 6) gNil))) (tIfS (tB (tVar 6)) (tSeq (tDrop (tBM K "list" rAppend (tVar 3) (tCons (tTup (tCons (tVar 5) (tCons (tOp (rIxL K) (tVar 2) (tVar 4)) tNil))) tNil)))
      (tAsg (tOp rAddI (tVar 4) (tC (.int 1))) (gName 4))) (tDrop (tBM K "list" rAppend (tVar 3) (tCons (tTup (tCons (tVar 5) (tCons (tC .non) tNil))) tNil)))))
      (tRet (tVar 3)))))
def RowsInv (L:Nat) (p p2 p3:Addr) (H2:Hp) (fr:List (List Nat)) (ks:List (List Nat × Bool)):Nat→St→Hp→Prop:=fun i σ H'=>∃ (g:Nat) (ys:List V) (ps:List (V × V)) (v5 v6:Option V),Same H2 H'∧H' p3 = some (.lst ys)∧Prs H' ys ps∧σ = [some (.int L),some (.ref p),some (.ref p2),some (.ref p3),some (.int g),v5,v6]∧ps ++ rowsFrom fr g (ks.drop i) = rowsFrom fr 0 ks∧g + stand (ks.drop i) = stand ks∧ys.length = i
theorem keep_list {H:Hp} {t r:Addr} {o:HO} {ys zs:List V} (ht:H t = none) (hr:H r = some (.lst ys)):∀ u xs,H u = some (.tup xs)→(upd (upd H t o) r (.lst zs)) u = some (.tup xs):=fun u xs e=>by
  rw [upd_ne (fun z=>by subst z; rw [hr] at e; cases e),upd_ne (fun z=>by subst z; rw [ht] at e; cases e)]
  exact e
theorem drop_get {α:Type} {l:List α} {i:Nat} {x:α} (h:l[i]? = some x):l.drop i = x :: l.drop (i + 1):=by
  obtain ⟨h1,h2⟩:=List.getElem?_eq_some_iff.mp h
  rw [List.drop_eq_getElem_cons h1,h2]
theorem read_rows {K:PySem.W.Frag} {N:List Str} {vs:List V} {H:Hp} {Q:VK} {E:XK} (hN:N.length = 7) (h:spRows K vs H Q E):rdRows K { nx:=fun _ H'=>Q .non H',rt:=Q } (L2.start N vs) H:=by
  obtain ⟨L,p,ks,rfl,hL,hL26,hks,⟨xs,hq,hp⟩,q⟩:=h
  unfold rdRows L2.start
  rw [hN]
  have hxl:=hp.len
  rw [List.length_map] at hxl
  refine seq_set fun c hc=>?_
  and_intros
  refine comp_stand (ks:=ks) (fun Q h=>⟨_,rfl,h⟩) hq hp (by omega) fun p1 hp1=>?_
  refine lenL_go SqL.here ?_
  rw [List.length_map,List.length_map]
  have hst:=stand_le ks
  refine ⟨L,stand ks,rfl,hL,hL26,by omega,fun H1 n p2 R s1 hp2=>hc _ _ ?_⟩
  clear hc c
  have s2:Same H (upd H1 p2 (.lst ((renL L (stand ks) n).map strV))):=((Same.up H hp1).trans s1).new hp2
  have hF:SqL K (upd H1 p2 (.lst ((renL L (stand ks) n).map strV))) p2 ((renL L (stand ks) n).map strV):=SqL.here
  have q:=fun H' r ys=>q H' r ys n R
  have hfl:=renL_len L (stand ks) n
  have hfg:=fun (g:Nat) (h:g < stand ks)=>renL_get (L:=L) (n:=n) h
  generalize upd H1 p2 _ = H2 at s2 hF ⊢
  generalize renL L (stand ks) n = fr at hF q hfl hfg
  refine seq_set fun c hc=>?_
  and_intros
  refine ⟨by decide,fun p3 hp3=>hc _ _ ?_⟩
  clear hc c
  refine seq_set fun c hc=>?_
  and_intros
  refine hc _ _ ?_
  clear hc c
  have s3:Same H2 (upd H2 p3 (.lst [])):=Same.up _ hp3
  refine seq_any fun c hc=>?_
  refine for_l (a:=p) (xs:=xs) (fun Q h=>⟨_,rfl,h⟩) (s3.seq (s2.seq hq))
    (RowsInv L p p2 p3 H2 fr ks)
    ⟨0,[],[],_,_,s3,upd_same,trivial,rfl,rfl,by rw [List.drop_zero,Nat.zero_add],rfl⟩ (fun i σ H' _ h=>by obtain ⟨_,_,_,_,_,s,_⟩:=h; exact s.seq (s2.seq hq)) ?_ ?_
  · rintro i x σ H' hx ⟨g,ys,ps,v5,v6,s4,hr,hps,rfl,e1,e2,e3⟩
    obtain ⟨k,t,ek,rfl,ht⟩:=((hp.same s2).same s4).get hx
    rw [List.getElem?_map] at ek
    obtain ⟨⟨m,b⟩,ek2,rfl⟩:=Option.map_eq_some_iff.mp ek
    rw [drop_get ek2] at e1 e2
    rw [stand_cons] at e2
    have hil:i < xs.length:=(List.getElem?_eq_some_iff.mp hx).1
    simp? [gTup,gCons,gNil,kP]
    refine ⟨[strV m,.bl b],SqT.of ht,rfl,strV m,[.bl b],rfl,.bl b,[],rfl,rfl,?_⟩
    have hz:ys.length < sizeLine:=by rw [sizeLine_eq]; omega
    cases b with
    | true=>
      and_intros
      rw [if_pos rfl] at e2
      refine ⟨.inl ⟨rfl,_,SqL.of hr⟩,?_⟩
      refine ixL_go (v:=strV (fr.getD g [])) (s4.seq hF) (by omega) ?_ ?_
      · rw [Int.toNat_natCast,List.getElem?_map,List.getD_eq_getElem?_getD,hfg g (by omega)]; rfl
      · refine ⟨by decide,fun t2 ht2=>?_⟩
        have h3:p3 ≠ t2:=fun z=>by subst z; rw [hr] at ht2; cases ht2
        refine ⟨p3,ys,_,rfl,rfl,by rw [upd_ne h3]; exact hr,hz,?_⟩
        refine ⟨g + 1,ys ++ [.ref t2],ps ++ [(strV m,strV (fr.getD g []))],_,_,(s4.new ht2).set hp3,upd_same,(hps.keep (keep_list ht2 hr)).app ⟨⟨t2,rfl,?_⟩,trivial⟩,rfl,?_,by omega,by rw [List.length_append]; simp [e3]⟩
        · rw [upd_ne (Ne.symm h3),upd_same]
        · rw [List.append_assoc]; exact e1
    | false=>
      and_intros
      rw [if_neg (by decide)] at e2
      refine ⟨.inl ⟨rfl,_,SqL.of hr⟩,by decide,fun t2 ht2=>?_⟩
      have h3:p3 ≠ t2:=fun z=>by subst z; rw [hr] at ht2; cases ht2
      refine ⟨p3,ys,_,rfl,rfl,by rw [upd_ne h3]; exact hr,hz,?_⟩
      refine ⟨g,ys ++ [.ref t2],ps ++ [(strV m,.non)],_,_,(s4.new ht2).set hp3,upd_same,(hps.keep (keep_list ht2 hr)).app ⟨⟨t2,rfl,?_⟩,trivial⟩,rfl,?_,by omega,by rw [List.length_append]; simp [e3]⟩
      · rw [upd_ne (Ne.symm h3),upd_same]
      · rw [List.append_assoc]; exact e1
  · rintro σ H' ⟨g,ys,ps,v5,v6,s4,hr,hps,rfl,e1,e2,e3⟩
    refine hc _ _ ?_
    and_intros
    rw [hxl,List.drop_length] at e1
    have e1:ps = rowsFrom fr 0 ks:=by simpa [rowsFrom] using e1
    rw [e1] at hps
    exact q _ p3 ys (s2.trans s4) (s2.free hp3) hr hps
def spText:Sp:=fun vs H Q _=>∃ (L r n:Nat),vs = [.int L,.int r,.int n]∧0 < L∧L ≤ 26∧n ≤ 100000∧Q (.str (txt (mk L r n))) H
def rdText (K:PySem.W.Frag):TS:=
    tSeq (tAsg (tC (.str (txt []))) (gName 3))
      (tSeq (tFor (iRng1 (tCons (tVar 2) tNil)) (gName 4) (tSeq (tAsg (tOp rAddS (tOp rIxStr (tC (.str (txt ABC))) (tOp rModI (tVar 1) (tVar 0))) (tVar 3)) (gName 3))
      (tAsg (tOp rDivI (tVar 1) (tVar 0)) (gName 1))))
      (tRet (tBM K "str" rRstrip (tVar 3) (tCons (tC (.str (txt [97]))) tNil))))
theorem read_text {K:PySem.W.Frag} {N:List Str} {vs:List V} {H:Hp} {Q:VK} {E:XK} (hN:N.length = 5) (h:spText vs H Q E):rdText K { nx:=fun _ H'=>Q .non H',rt:=Q } (L2.start N vs) H:=by
  obtain ⟨L,r,n,rfl,hL0,hL,hn,q⟩:=h
  unfold rdText L2.start
  rw [hN]
  and_intros
  refine for_r1 (j:=n) (fun Q h=>⟨_,rfl,h⟩) (by omega) (by omega) (fun i σ H'=>H' = H∧∃ v4,σ = [some (.int L),some (.int (r / L ^ i:Nat)),some (.int n),some (.str (txt (low L r i))),v4]) ⟨rfl,_,by rw [Nat.pow_zero,Nat.div_one]; rfl⟩ ?_ ?_
  · rintro i σ H1 hi ⟨rfl,v4,rfl⟩
    have e1:((r / L ^ i:Nat):Int) % (L:Int) = ((r / L ^ i % L:Nat):Int):=(Int.natCast_emod _ _).symm
    have e2:((r / L ^ i:Nat):Int) / (L:Int) = ((r / L ^ (i + 1):Nat):Int):=by rw [Nat.pow_succ,← Nat.div_div_eq_div_mul]; exact (Int.natCast_ediv _ _).symm
    have hb:=Nat.mod_lt (r / L ^ i) hL0
    and_intros
    rw [e1,e2]
    refine ⟨by omega,ixABC_go (by omega) (by omega) (addS_go (by rw [low_length]; simp only [List.length_cons,List.length_nil]; omega) ⟨cdiv (by omega) (by omega),?_⟩)⟩
    exact ⟨rfl,some (.int i),by rw [Int.toNat_natCast]; rfl⟩
  · rintro σ H1 ⟨rfl,v4,rfl⟩
    and_intros
    rw [Int.toNat_natCast]
    exact ⟨rfl,rstrip_go (by rw [low_length]; exact hn) q⟩
theorem lt_of_sorted {zs:List (List Nat)} (h:zs.Pairwise (· ≤ ·)) (n:zs.Nodup):zs.Pairwise (· < ·):=by
  have:=List.Pairwise.and h n
  refine this.imp fun {a b} hab=>?_
  by_cases z:a < b
  · exact z
  · exact absurd (List.le_antisymm hab.1 (List.not_lt.mp z)) hab.2
def Keeps (F:List Addr) (H H':Hp):Prop:=∀ b o,H b = some o→b ∉ F→H' b = some o
theorem Same.keeps {H H':Hp} (s:Same H H') (F:List Addr):Keeps F H H':=fun b o e _=>s b o e
theorem Keeps.trans {F:List Addr} {H H1 H2:Hp} (a:Keeps F H H1) (b:Keeps F H1 H2):Keeps F H H2:=fun x o e n=>b x o (a x o e n) n
theorem Keeps.upd {F:List Addr} {H H':Hp} {p:Addr} {o:HO} (a:Keeps F H H') (h:p ∈ F ∨ H' p = none):Keeps F H (upd H' p o):=fun x q e n=>by
  have:=a x q e n
  rw [upd_ne (fun z => by subst z; rcases h with h | h
                          · exact n h
                          · rw [this] at h; cases h)]
  exact this
def spAskL (c:Addr):Sp:=fun vs H Q E=>∃ (L h:Int),vs = [.int L,.int h]∧((2 ≤ L∧L ≤ 26∧1 ≤ h∧h < L)→Q .non H)∧(¬ (2 ≤ L∧L ≤ 26∧1 ≤ h∧h < L)→E (.ref c) none H)
def rdAskL (c:Addr) (E:XK) (m1 m2:List Nat):TS:=
    tSeq (tIfS (tOr (tTest (tOp rLtI (tVar 0) (tC (.int 2)))) (tTest (tOp rGtI (tVar 0) (tCB rLenS (tCons (tC (.str (txt ABC))) tNil))))) (tRaise (.ref c) E (tCons (tC (.str (txt m1))) tNil)) (tNext))
      (tIfS (tOr (tTest (tOp rLtI (tVar 1) (tC (.int 1)))) (tTest (tOp rGeI (tVar 1) (tVar 0)))) (tRaise (.ref c) E (tCons (tC (.str (txt m2))) tNil)) (tNext))
theorem read_askL {c:Addr} {m1 m2:List Nat} {N:List Str} {vs:List V} {H:Hp} {Q:VK} {E:XK} (hN:N.length = 2) (h:spAskL c vs H Q E):rdAskL c E m1 m2 { nx:=fun _ H'=>Q .non H',rt:=Q } (L2.start N vs) H:=by
  obtain ⟨L,h,rfl,q1,q2⟩:=h
  unfold rdAskL L2.start
  rw [hN]
  and_intros
  by_cases h1:L < 2
  · rw [if_pos h1]
    exact ⟨by decide,q2 (by omega)⟩
  · rw [if_neg h1]
    refine lenS_go (by rw [abc_len]; decide) ⟨_,rfl,?_⟩
    rw [abc_len]
    by_cases h2:((26:Nat):Int) < L
    · rw [if_pos h2]
      exact ⟨by decide,q2 (by omega)⟩
    · rw [if_neg h2]
      by_cases h3:h < 1
      · rw [if_pos h3]
        exact ⟨by decide,q2 (by omega)⟩
      · rw [if_neg h3]
        by_cases h4:L ≤ h
        · rw [if_pos h4]
          exact ⟨by decide,q2 (by omega)⟩
        · rw [if_neg h4]
          exact q1 (by omega)
def SIGNS:List Nat:=[97,98,99,100,101,102,103,104,105,106,107,108,109,110,111,112,113,114,115,116,117,118,119,120,121,122,48,49,50,51,52,53,54,55,56,57]
def Thing (t:List Nat):Prop:=t ≠ []∧t.length ≤ 12∧∀ c ∈ t,c ∈ SIGNS
def spIsThing:Sp:=fun vs H Q _=>∃ t:List Nat,vs = [.str (txt t)]∧t.length ≤ 100000∧∀ H' b,Same H H'→(b = true ↔ Thing t)→Q (.bl b) H'
def rdIsThing (K:PySem.W.Frag):TS:=
    tSeq (tIfS (tOr (tTest (tOp rEq (tVar 0) (tC (.str (txt []))))) (tTest (tOp rGtI (tCB rLenS (tCons (tVar 0) tNil)) (tC (.int 12))))) (tRet (tC (.bl false))) (tNext))
      (tRet (tCB (rAllB K) (tCons (tComp (iStr (tVar 0)) [] tYes (tOp rIn1 (tVar 0) (tC (.str (txt SIGNS))))) tNil)))
theorem read_isThing {K:PySem.W.Frag} {N:List Str} {vs:List V} {H:Hp} {Q:VK} {E:XK} (hN:N.length = 1) (h:spIsThing vs H Q E):rdIsThing K { nx:=fun _ H'=>Q .non H',rt:=Q } (L2.start N vs) H:=by
  obtain ⟨t,rfl,hz,q⟩:=h
  unfold rdIsThing L2.start
  rw [hN]
  and_intros
  refine ⟨rfl,?_⟩
  by_cases h1:t = []
  · rw [if_pos h1]
    exact q _ _ (Same.refl _) ⟨(fun z=>nomatch z),fun z=>absurd h1 z.1⟩
  · rw [if_neg h1]
    refine lenS_go hz ⟨_,rfl,?_⟩
    by_cases h2:(12:Int) < (t.length:Int)
    · rw [if_pos h2]
      exact q _ _ (Same.refl _) ⟨(fun z=>nomatch z),fun z=>by have:=z.2.1; omega⟩
    · rw [if_neg h2]
      refine comp_s (l:=t) (fun Q h=>⟨_,rfl,h⟩) (Nat.le_trans (show t.length ≤ 100000 by omega) (by decide)) (fun i ys H'=>H' = H∧ys = ((t.take i).map fun c=>decide (c ∈ SIGNS)).map V.bl) ⟨rfl,rfl⟩
        (fun i ys H' _ p=>by rw [p.2,List.length_map,List.length_map,List.length_take]; omega) ?_ ?_
      · rintro i c ys H' hc ⟨rfl,rfl⟩ R hR
        and_intros
        refine ⟨c,_,rfl,rfl,hR _ _ ⟨rfl,?_⟩⟩
        rw [List.take_succ,hc,List.map_append,List.map_append]
        rfl
      · rintro ys H' ⟨rfl,rfl⟩ p hp
        rw [List.take_length]
        refine ⟨p,_,rfl,SqL.here,q _ _ (Same.up _ hp) ?_⟩
        rw [List.all_map,List.all_eq_true]
        constructor
        · intro z
          exact ⟨h1,by omega,fun c hc=>by simpa using z c hc⟩
        · rintro ⟨_,_,z⟩ c hc
          simpa using z c hc
def spAskThing (c:Addr):Sp:=fun vs H Q E=>∃ t:List Nat,vs = [.str (txt t)]∧t.length ≤ 100000∧∀ H',Same H H'→(Thing t→Q .non H')∧(¬ Thing t→E (.ref c) none H')
def rdAskThing (c:Addr) (E:XK) (m:List Nat):TS:=
    tIfS (tNot (tB (tCall spIsThing [] E0 (tCons (tVar 0) tNil)))) (tRaise (.ref c) E (tCons (tC (.str (txt m))) tNil)) (tNext)
theorem read_askThing {c:Addr} {m:List Nat} {N:List Str} {vs:List V} {H:Hp} {Q:VK} {E:XK} (hN:N.length = 1) (h:spAskThing c vs H Q E):rdAskThing c E m { nx:=fun _ H'=>Q .non H',rt:=Q } (L2.start N vs) H:=by
  obtain ⟨t,rfl,hz,q⟩:=h
  unfold rdAskThing L2.start
  rw [hN]
  and_intros
  refine ⟨t,rfl,hz,fun H' b s hb=>⟨_,rfl,?_⟩⟩
  cases b with
  | true=>
    and_intros
    exact (q H' s).1 (hb.mp rfl)
  | false=>
    and_intros
    exact ⟨by decide,(q H' s).2 fun z=>by have:=hb.mpr z; cases this⟩
def spAskPlace (c:Addr):Sp:=fun vs H Q E=>∃ (i n:Int),vs = [.int i,.int n]∧((0 ≤ i∧i < n)→Q .non H)∧(¬ (0 ≤ i∧i < n)→E (.ref c) none H)
def rdAskPlace (c:Addr) (E:XK) (m:List Nat):TS:=
    tIfS (tOr (tTest (tOp rLtI (tVar 0) (tC (.int 0)))) (tTest (tOp rGeI (tVar 0) (tVar 1)))) (tRaise (.ref c) E (tCons (tC (.str (txt m))) tNil)) (tNext)
theorem read_askPlace {c:Addr} {m:List Nat} {N:List Str} {vs:List V} {H:Hp} {Q:VK} {E:XK} (hN:N.length = 2) (h:spAskPlace c vs H Q E):rdAskPlace c E m { nx:=fun _ H'=>Q .non H',rt:=Q } (L2.start N vs) H:=by
  obtain ⟨i,n,rfl,q1,q2⟩:=h
  unfold rdAskPlace L2.start
  rw [hN]
  and_intros
  by_cases h1:i < 0
  · rw [if_pos h1]
    exact ⟨by decide,q2 (by omega)⟩
  · rw [if_neg h1]
    by_cases h2:n ≤ i
    · rw [if_pos h2]
      exact ⟨by decide,q2 (by omega)⟩
    · rw [if_neg h2]
      exact q1 (by omega)
def aheadO (ms:List (List Nat)) (i:Nat):Option (List Nat):=if i = 0 then none else ms[i - 1]?
abbrev loN (L:Nat) (lo:Option (List Nat)) (n:Nat):Nat:=valO L lo n + 1
abbrev hiN (L:Nat) (hi:Option (List Nat)) (n:Nat):Nat:=aheadN hi (highO L hi n) n
theorem figO_lt {L:Nat} (hL:0 < L) {o:Option (List Nat)} {n:Nat} (h:∀ m,o = some m→Ls L m):figO o n < L:=by
  cases o with
  | none=>exact hL
  | some m=>
    show fig m n < L
    unfold fig
    cases e:m[n]? with
    | none=>exact hL
    | some c=>have:=h m rfl c (List.mem_of_getElem? e); simp only []; omega
theorem strOk_small {l:List Nat} (h:∀ c ∈ l,c < 200):PyData.strOk (txt l) = true:=by
  unfold PyData.strOk txt
  simp only [Array.all_eq_true_iff_forall_mem,List.mem_toArray,decide_eq_true_eq]
  intro c hc; have:=h c hc; omega
theorem strOk_mark {L:Nat} (hL:L ≤ 26) {m:List Nat} (h:Ls L m):PyData.strOk (txt m) = true:=strOk_small fun c hc=>by have:=h c hc; omega
theorem signs_small:∀ c ∈ SIGNS,c < 200:=by decide
theorem strOk_thing {t:List Nat} (h:Thing t):PyData.strOk (txt t) = true:=strOk_small fun c hc=>signs_small c (h.2.2 c hc)
theorem same_keep {H0 H H':Hp} {F:List Addr} (s:Same H0 H) (k:Keeps F H H') (h:∀ a ∈ F,H0 a = none):Same H0 H':=fun b o e=>k b o (s b o e) (fun z=>by rw [h b z] at e; cases e)
abbrev RwN:=List Nat × Option (List Nat)
def rowP (r:RwN):V × V:=(strV r.1,oV r.2)
variable {L:Nat} {R:List RwN}
structure HandC (K:PySem.W.Frag) (C:Addr):Prop where
  cls:Cls K C
  nl:NoAttr K C "letters"
  nh:NoAttr K C "hands"
  nn:NoAttr K C "own_number"
  nr:NoAttr K C "renewals"
  nt:NoAttr K C "thing_of"
  nk:NoAttr K C "taken"
def handF (L h j : Nat) (pr pt pk : Addr) : List (Str × V) := [("letters", .int L), ("hands", .int h), ("own_number", .int j), ("renewals", .ref pr), ("thing_of", .ref pt), ("taken", .ref pk)]
def thD (kvs:List (List Nat × List Nat)):List (Key × V):=kvs.map fun kv=>(Key.inr (txt kv.1),strV kv.2)
def tkD (ks:List (List Nat)):List (Key × V):=ks.map fun m=>(Key.inr (txt m),.bl true)
structure Hnd (C:Addr) (H:Hp) (x dx pr pt pk:Addr) (L h j:Nat) (kvs:List (List Nat × List Nat)) (ks:List (List Nat)):Prop where
  ins:H x = some (.ins C dx (handF L h j pr pt pk))
  own:H dx = some (.own x)
  tho:H pt = some (.dK (thD kvs))
  tak:H pk = some (.dK (tkD ks))
  apart:pt ≠ pk
theorem Hnd.same {C:Addr} {H H':Hp} {x dx pr pt pk:Addr} {L h j:Nat} {kvs:List (List Nat × List Nat)} {ks:List (List Nat)} (S:Hnd C H x dx pr pt pk L h j kvs ks) (s:Same H H'):Hnd C H' x dx pr pt pk L h j kvs ks:=⟨s _ _ S.ins,s _ _ S.own,s _ _ S.tho,s _ _ S.tak,S.apart⟩
theorem thD_eq (kvs:List (List Nat × List Nat)):thD kvs = (kvs.map fun kv=>(kv.1,strV kv.2)).map fun kv=>(Key.inr (txt kv.1),kv.2):=by
  unfold thD; rw [List.map_map]; rfl
theorem val_tk (m:List Nat):∀ ks:List (List Nat),(valV (tkD ks) (Key.inr (txt m))).isSome = decide (m ∈ ks)
  | []=>by simp [tkD,valV_nil]
  | k :: ks=>by
    have ih:=val_tk m ks
    show (valV ((Key.inr (txt k),V.bl true) :: tkD ks) _).isSome = _
    by_cases e:k = m
    · subst e; rw [valV_pos rfl]; simp
    · rw [valV_neg (fun z=>e (txt_inj.mp (by injection z))),ih]
      simp [Ne.symm e]
section
variable {K:PySem.W.Frag} {C:Addr} {H:Hp} {x dx pr pt pk:Addr} {L h j:Nat} {kvs:List (List Nat × List Nat)} {ks:List (List Nat)} {σ:St} {i:Nat} {Q:VK}
theorem hfl_go (S:Hnd C H x dx pr pt pk L h j kvs ks) (c:HandC K C) (e:σ[i]? = some (some (.ref x))) (q:Q (.int L) H):tFld K (tVar i) "letters" σ H Q:=⟨_,e,x,C,dx,_,_,rfl,S.ins,c.cls,c.nl,rfl,q⟩
theorem hfh_go (S:Hnd C H x dx pr pt pk L h j kvs ks) (c:HandC K C) (e:σ[i]? = some (some (.ref x))) (q:Q (.int h) H):tFld K (tVar i) "hands" σ H Q:=⟨_,e,x,C,dx,_,_,rfl,S.ins,c.cls,c.nh,rfl,q⟩
theorem hfn_go (S:Hnd C H x dx pr pt pk L h j kvs ks) (c:HandC K C) (e:σ[i]? = some (some (.ref x))) (q:Q (.int j) H):tFld K (tVar i) "own_number" σ H Q:=⟨_,e,x,C,dx,_,_,rfl,S.ins,c.cls,c.nn,rfl,q⟩
theorem hfr_go (S:Hnd C H x dx pr pt pk L h j kvs ks) (c:HandC K C) (e:σ[i]? = some (some (.ref x))) (q:Q (.ref pr) H):tFld K (tVar i) "renewals" σ H Q:=⟨_,e,x,C,dx,_,_,rfl,S.ins,c.cls,c.nr,rfl,q⟩
theorem hft_go (S:Hnd C H x dx pr pt pk L h j kvs ks) (c:HandC K C) (e:σ[i]? = some (some (.ref x))) (q:Q (.ref pt) H):tFld K (tVar i) "thing_of" σ H Q:=⟨_,e,x,C,dx,_,_,rfl,S.ins,c.cls,c.nt,rfl,q⟩
theorem hfk_go (S:Hnd C H x dx pr pt pk L h j kvs ks) (c:HandC K C) (e:σ[i]? = some (some (.ref x))) (q:Q (.ref pk) H):tFld K (tVar i) "taken" σ H Q:=⟨_,e,x,C,dx,_,_,rfl,S.ins,c.cls,c.nk,rfl,q⟩
end
def spHMarks (C:Addr):Sp:=fun vs H Q _=>∃ (x dx pr pt pk:Addr) (L h j:Nat) (kvs:List (List Nat × List Nat)) (ks:List (List Nat)),vs = [.ref x]∧Hnd C H x dx pr pt pk L h j kvs ks∧kvs.length < 64∧(kvs.map (·.1)).Nodup∧
  ∀ H' p (zs:List (List Nat)),Same H H'→H' p = none→zs.Pairwise (· < ·)→(∀ m,m ∈ zs ↔ m ∈ kvs.map (·.1)∧¬ m ∈ ks)→Q (.ref p) (upd H' p (.lst (zs.map strV)))
def rdHMarks (K:PySem.W.Frag):TS:=tRet (tComp (iList K (tCB rSortedD (tCons (tFld K (tVar 0) "thing_of") tNil))) [0] (tTest (tOp (rInD true) (tVar 0) (tFld K (tVar 1) "taken"))) (tVar 0))
def HMInv (H:Hp) (zs:List (List Nat)) (ks:List (List Nat)):Nat→List V→Hp→Prop:=fun i ys H'=>H' = H∧ys = ((zs.take i).filter fun m=>!decide (m ∈ ks)).map strV
theorem read_hMarks {K:PySem.W.Frag} {C:Addr} (cl:HandC K C) {N:List Str} {vs:List V} {H:Hp} {Q:VK} {E:XK} (hN:N.length = 1) (h:spHMarks C vs H Q E):rdHMarks K { nx:=fun _ H'=>Q .non H',rt:=Q } (L2.start N vs) H:=by
  obtain ⟨x,dx,pr,pt,pk,L,h,j,kvs,ks,rfl,S,h64,hnd,q⟩:=h
  unfold rdHMarks L2.start
  rw [hN]
  and_intros
  refine comp_by fun R0 hR0=>?_
  simp? [iList]
  refine hft_go S cl rfl ⟨pt,kvs.map fun kv=>(kv.1,strV kv.2),rfl,by rw [← thD_eq]; exact S.tho,by rw [List.length_map]; exact h64,fun l zs hl hpm hle=>⟨l,rfl,⟨_,SqL.here⟩,?_⟩⟩
  rw [hR0]
  have hk:(kvs.map fun kv=>(kv.1,strV kv.2)).map (·.1) = kvs.map (·.1):=by rw [List.map_map]; rfl
  rw [hk] at hpm
  have zlt:=lt_of_sorted hle (hpm.nodup_iff.mpr hnd)
  have s1:=Same.up H hl (o:=.lst (zs.map strV))
  have S1:=S.same s1
  have hZ:(upd H l (.lst (zs.map strV))) l = some (.lst (zs.map strV)):=upd_same
  generalize upd H l _ = H1 at s1 S1 hZ ⊢
  have zl:zs.length < 64:=by rw [hpm.length_eq,List.length_map]; exact h64
  refine comp_lst (K:=K) (xs:=zs.map strV) (σ:=[some (.ref x)]) (fs:=[0]) (tt:=tTest (tOp (rInD true) (tVar 0) (tFld K (tVar 1) "taken"))) (te:=tVar 0) (Q:=Q) (HMInv H1 zs ks) ⟨rfl,rfl⟩ (fun i ys H' _ p=>by
    obtain ⟨e,e2⟩:=p
    rw [e,e2,List.length_map]
    refine ⟨SqL.of hZ,Nat.le_trans (List.length_filter_le _ _) ?_⟩
    rw [List.length_take]
    exact Nat.min_le_left _ _) (by rw [List.length_map,sizeLine_eq]; omega) ?_ ?_
  · rintro i v ys H' hv ⟨rfl,rfl⟩ W hW
    rw [List.getElem?_map] at hv
    obtain ⟨m,hm,rfl⟩:=Option.map_eq_some_iff.mp hv
    simp? [strV]
    refine hfk_go S1 cl rfl ⟨pk,_,rfl,DGet.k (k:=Key.inr (txt m)) S1.tak,_,rfl,?_⟩
    rw [val_tk]
    have etk:zs.take (i + 1) = zs.take i ++ [m]:=by rw [List.take_add_one,hm]; rfl
    by_cases z:m ∈ ks
    · rw [if_neg (by simp [z])]
      refine hW _ _ ⟨rfl,?_⟩
      rw [etk,List.filter_append]
      simp [z]
    · rw [if_pos (by simp [z])]
      refine hW _ _ ⟨rfl,?_⟩
      rw [etk,List.filter_append,List.map_append]
      simp [z,strV]
  · rintro ys H' ⟨rfl,rfl⟩ p hp
    rw [List.length_map,List.take_length]
    refine q H' p _ s1 hp (zlt.filter _) fun m=>?_
    rw [List.mem_filter,hpm.mem_iff]
    simp
def isBeh (lo:Option (List Nat)) (m:List Nat):Bool:=match lo with | none=>true | some l=>decide (l < m)
def spHBehind (K:PySem.W.Frag) (C:Addr):Sp:=fun vs H Q _=>∃ (x dx pr pt pk:Addr) (L h j:Nat) (kvs:List (List Nat × List Nat)) (ks:List (List Nat)) (lo:Option (List Nat)),vs = [.ref x,oV lo]∧Hnd C H x dx pr pt pk L h j kvs ks∧kvs.length ≤ 10000∧
  ∀ H' v,Same H H'→(v = none→∀ k ∈ kvs.map (·.1),isBeh lo k = false)→(∀ m,v = some m→m ∈ kvs.map (·.1)∧isBeh lo m = true∧∀ k ∈ kvs.map (·.1),isBeh lo k = true→¬ k < m)→Q (oV v) H'
def rdHBehind (K:PySem.W.Frag):TS:=tRet (tMinD K (tThaw (tComp (iDict (tFld K (tVar 0) "thing_of")) [1] (tOr (tB (tIsN (tVar 1))) (tTest (tOp rLtS (tVar 1) (tVar 0)))) (tVar 0))) (tC .non))
theorem read_hBehind {K:PySem.W.Frag} {C:Addr} (cl:HandC K C) {N:List Str} {vs:List V} {H:Hp} {Q:VK} {E:XK} (hN:N.length = 2) (h:spHBehind K C vs H Q E):rdHBehind K { nx:=fun _ H'=>Q .non H',rt:=Q } (L2.start N vs) H:=by
  obtain ⟨x,dx,pr,pt,pk,L,h,j,kvs,ks,lo,rfl,S,hl,q⟩:=h
  unfold rdHBehind L2.start
  rw [hN]
  simp? [tMinD]
  refine comp_d (a:=pt) (kvs:=thD kvs) (fun Q h=>hft_go S cl rfl h) S.tho (fun i ys H'=>(∀ b,b ≠ pt→H' b = H b)∧ys = (((kvs.map (·.1)).take i).filter (isBeh lo)).map strV) (fun H' k=>⟨k,rfl⟩)
    (fun i ys H' _ p=>by
      rw [p.2,List.length_map]
      refine Nat.le_trans (List.length_filter_le _ _) ?_
      rw [List.length_take]
      exact Nat.min_le_left _ _) (by rw [thD,List.length_map,sizeLine_eq]; omega) ?_ ?_
  · rintro i k v ys H' hv ⟨hk,rfl⟩ W hW
    unfold thD at hv
    rw [List.getElem?_map] at hv
    obtain ⟨kv,hm,e⟩:=Option.map_eq_some_iff.mp hv
    cases e
    have etk:(kvs.map (·.1)).take (i + 1) = (kvs.map (·.1)).take i ++ [kv.1]:=by rw [List.take_add_one,List.getElem?_map,hm]; rfl
    have yes:isBeh lo kv.1 = true→W ((((kvs.map (·.1)).take i).filter (isBeh lo)).map strV ++ [strV kv.1]) H':=fun z=>hW _ _ ⟨hk,by rw [etk,List.filter_append,List.map_append]; simp [z]⟩ rfl
    have no:isBeh lo kv.1 = false→W ((((kvs.map (·.1)).take i).filter (isBeh lo)).map strV) H':=fun z=>hW _ _ ⟨hk,by rw [etk,List.filter_append]; simp [z]⟩ rfl
    cases lo with
    | none=>
      simp? [kV,oV]
      exact yes rfl
    | some l=>
      simp? [kV,oV]
      refine ⟨_,_,rfl,rfl,_,rfl,?_⟩
      by_cases z:l < kv.1
      · rw [if_pos (decide_eq_true z)]
        exact yes (decide_eq_true z)
      · rw [if_neg (by rw [decide_eq_false z]; decide)]
        exact no (decide_eq_false z)
  · rintro ys H' ⟨hk,rfl⟩ p hp hne
    have eH:upd H' pt (.dK (thD kvs)) = H:=by
      funext b
      by_cases z:b = pt
      · subst z; rw [upd_same]; exact S.tho.symm
      · rw [upd_ne z]; exact hk b z
    rw [eH]
    have hpH:H p = none:=by rw [← hk p hne]; exact hp
    have s1:=Same.up H hpH (o:=.lst ((((kvs.map (·.1)).take (thD kvs).length).filter (isBeh lo)).map strV))
    have full:(kvs.map (·.1)).take (thD kvs).length = kvs.map (·.1):=List.take_of_length_le (by rw [thD,List.length_map,List.length_map]; exact Nat.le_refl _)
    refine ⟨p,rfl,(((kvs.map (·.1)).take (thD kvs).length).filter (isBeh lo)),SqL.here,fun e=>?_,fun m hm hmin=>?_⟩
    · rw [full] at e
      refine q _ none s1 (fun _ k hk'=>?_) (fun m z=>by cases z)
      have:=List.filter_eq_nil_iff.mp e k hk'
      simpa using this
    · rw [full] at hm hmin
      obtain ⟨h1,h2⟩:=List.mem_filter.mp hm
      exact q _ (some m) s1 (fun z=>by cases z) fun m' z=>by
        cases z
        exact ⟨h1,h2,fun k hk' hb=>hmin k (List.mem_filter.mpr ⟨hk',hb⟩)⟩
theorem hmeth_go {C:Addr} {H:Hp} {x dx pr pt pk:Addr} {L h j:Nat} {kvs:List (List Nat × List Nat)} {ks:List (List Nat)} {σ:St} {Q:VK} {m:Str} {sp:Sp} {E:XK} {t:TA} {to:TE} (S:Hnd C H x dx pr pt pk L h j kvs ks) (ho:∀ R:VK,R (.ref x) H→to σ H R) (hm:(handF L h j pr pt pk).lookup m = none) (q:t σ H fun vs H2=>sp (.ref x :: (vs ++ [])) H2 Q E):tMeth C m sp [] E to t σ H Q:=
  ho _ ⟨x,dx,_,rfl,S.ins,hm,q⟩
theorem Hnd.take {C:Addr} {H:Hp} {x dx pr pt pk:Addr} {L h j:Nat} {kvs:List (List Nat × List Nat)} {ks:List (List Nat)} (S:Hnd C H x dx pr pt pk L h j kvs ks) {m:List Nat} (hm:¬ m ∈ ks):Hnd C (upd H pk (.dK (putK (tkD ks) (Key.inr (txt m)) (.bl true)))) x dx pr pt pk L h j kvs (ks ++ [m]):=by
  have n1:x ≠ pk:=fun z=>by subst z; have:=S.ins.symm.trans S.tak; cases this
  have n2:dx ≠ pk:=fun z=>by subst z; have:=S.own.symm.trans S.tak; cases this
  have e:putK (tkD ks) (Key.inr (txt m)) (.bl true) = tkD (ks ++ [m]):=by
    rw [putK_new _ (by
      have:=val_tk m ks
      rw [decide_eq_false hm] at this
      cases w:valV (tkD ks) (Key.inr (txt m)) with
      | none=>rfl
      | some v=>rw [w] at this; cases this)]
    unfold tkD
    rw [List.map_append]
    rfl
  rw [e]
  exact ⟨by rw [upd_ne n1]; exact S.ins,by rw [upd_ne n2]; exact S.own,by rw [upd_ne S.apart]; exact S.tho,upd_same,S.apart⟩
structure Shown (kvs:List (List Nat × List Nat)) (ks zs:List (List Nat)):Prop where
  up:zs.Pairwise (· < ·)
  mem:∀ m,m ∈ zs ↔ m ∈ kvs.map (·.1)∧¬ m ∈ ks
def spHTake (C c:Addr):Sp:=fun vs H Q E=>∃ (x dx pr pt pk:Addr) (L h j:Nat) (kvs:List (List Nat × List Nat)) (ks:List (List Nat)) (i:Int),vs = [.ref x,.int i]∧Hnd C H x dx pr pt pk L h j kvs ks∧kvs.length < 64∧(kvs.map (·.1)).Nodup∧ks.length ≤ 10000∧
  ∀ zs,Shown kvs ks zs→((0 ≤ i∧i < zs.length)→∀ H' m,zs[i.toNat]? = some m→Keeps [pk] H H'→Hnd C H' x dx pr pt pk L h j kvs (ks ++ [m])→Q (.str (txt m)) H')∧(¬ (0 ≤ i∧i < zs.length)→∀ H',Same H H'→E (.ref c) none H')
def rdHTake (K:PySem.W.Frag) (C c:Addr) (E:XK):TS:=
    tSeq (tAsg (tMeth C "marks" (spHMarks C) [] E0 (tVar 0) tNil) (gName 2))
      (tSeq (tDrop (tCall (spAskPlace c) [] E (tCons (tVar 1) (tCons (tCB (rLenL K) (tCons (tVar 2) tNil)) tNil))))
      (tSeq (sDPut (tFld K (tVar 0) "taken") (tOp (rIxL K) (tVar 2) (tVar 1)) (tC (.bl true)))
      (tRet (tOp (rIxL K) (tVar 2) (tVar 1)))))
theorem read_hTake {K:PySem.W.Frag} {C c:Addr} (cl:HandC K C) {N:List Str} {vs:List V} {H:Hp} {Q:VK} {E:XK} (hN:N.length = 3) (h:spHTake C c vs H Q E):rdHTake K C c E { nx:=fun _ H'=>Q .non H',rt:=Q } (L2.start N vs) H:=by
  obtain ⟨x,dx,pr,pt,pk,L,h,j,kvs,ks,i,rfl,S,h64,hnd,hkl,q⟩:=h
  unfold rdHTake L2.start
  rw [hN]
  refine seq_set fun c1 hc=>?_
  and_intros
  refine hmeth_go S (fun R r=>⟨_,rfl,r⟩) rfl ⟨x,dx,pr,pt,pk,L,h,j,kvs,ks,rfl,S,h64,hnd,fun H1 p zs s1 hp up mem=>hc _ _ ?_⟩
  clear hc c1
  obtain ⟨q1,q2⟩:=q zs ⟨up,mem⟩
  have s2:=s1.new hp (o:=.lst (zs.map strV))
  have hZ:(upd H1 p (.lst (zs.map strV))) p = some (.lst (zs.map strV)):=upd_same
  generalize upd H1 p _ = H2 at s2 hZ ⊢
  have S2:=S.same s2
  refine seq_any fun c1 hc=>?_
  and_intros
  refine lenL_go (SqL.of hZ) ?_
  rw [List.length_map]
  refine ⟨i,_,rfl,fun hi=>hc _ _ ?_,fun hi=>q2 hi H2 s2⟩
  clear hc c1
  obtain ⟨m,hm⟩:=some_at (l:=zs) (i:=i.toNat) (by omega)
  have hmk:=(mem m).mp (List.mem_of_getElem? hm)
  refine seq_any fun c1 hc=>?_
  simp? [sDPut]
  refine hfk_go S2 cl rfl (ixL_go (v:=strV m) (SqL.of hZ) hi.1 (by rw [List.getElem?_map,hm]; rfl) ⟨pk,rfl,_,DPut.k (k:=Key.inr (txt m)) S2.tak (by rw [tkD,List.length_map,sizeLine_eq]; omega),hc _ _ ?_⟩)
  clear hc c1
  have S3:=S2.take hmk.2
  have np:p ≠ pk:=fun z=>by subst z; rw [S2.tak] at hZ; cases hZ
  have hZ3:(upd H2 pk (.dK (putK (tkD ks) (Key.inr (txt m)) (.bl true)))) p = some (.lst (zs.map strV)):=by rw [upd_ne np]; exact hZ
  have k3:Keeps [pk] H (upd H2 pk (.dK (putK (tkD ks) (Key.inr (txt m)) (.bl true)))):=(s2.keeps _).upd (.inl List.mem_cons_self)
  generalize upd H2 pk _ = H3 at S3 hZ3 k3 ⊢
  and_intros
  exact ixL_go (v:=strV m) (SqL.of hZ3) hi.1 (by rw [List.getElem?_map,hm]; rfl) (q1 hi H3 m hm k3 S3)
theorem Found.allH {L h j n w:Nat} {lo hi:Option (List Nat)} {m:List Nat} (F:Found L (endsL L h j) lo hi n w m) (D:Hands L h j) (M:MarksOk L lo hi) (ok:OkLH lo hi) :
    Mark L m∧m.length ≤ 1 + max (lenO lo) (lenO hi)∧(∀ l,lo = some l→l < m)∧∀ u,hi = some u→m < u:=by
  have hL:=D.l2
  have hL0:0 < L:=by omega
  have hw:w < L ^ n:=Nat.lt_of_lt_of_le F.lt (ahead_le n hL0 M)
  have hm:=low_length L w n
  rw [← F.eq] at hm
  have h0:w % L ≠ 0:=by have:=((own_iff hL0 w).mp F.own).1; omega
  have hn1:=F.least.pos
  have hnl:=F.least.len1 hL (ends_ok (K:=L) D.hj D.hh) M ok
  obtain ⟨n',rfl⟩:∃ n',n = n' + 1:=⟨n - 1,by omega⟩
  refine ⟨?_,by omega,fun l e=>?_,fun u e=>?_⟩
  · refine ⟨by rw [F.eq]; exact low_ls hL0 _ _,fun c hc=>?_,fun z=>by rw [z] at hm; simp at hm⟩
    rw [F.eq,low_last hL0] at hc
    have:=Option.some.inj hc
    omega
  · rw [F.eq,low_iff hL0 hw h0 (M.mlo l e).1.ls]
    have:=F.ge
    rw [e] at this
    exact this
  · rw [F.eq,high_iff hL0 hw (M.mhi u e).1.ls (M.mhi u e).1.na]
    have:=F.lt
    rw [e] at this
    exact this
structure Knows (L:Nat) (kvs:List (List Nat × List Nat)) (ks:List (List Nat)) (k b:Nat):Prop where
  nd:(kvs.map (·.1)).Nodup
  mar:∀ kv ∈ kvs,Mark L kv.1∧kv.1.length ≤ b∧Thing kv.2
  few:kvs.length ≤ k
  sub:∀ m ∈ ks,m ∈ kvs.map (·.1)
  tnd:ks.Nodup
theorem Knows.mark {L:Nat} {kvs:List (List Nat × List Nat)} {ks:List (List Nat)} {k b:Nat} (W:Knows L kvs ks k b) {m:List Nat} (h:m ∈ kvs.map (·.1)):Mark L m∧m.length ≤ b:=by
  obtain ⟨kv,h1,rfl⟩:=List.mem_map.mp h
  exact ⟨(W.mar kv h1).1,(W.mar kv h1).2.1⟩
theorem nodup_len:∀ {ks ms:List (List Nat)},ks.Nodup→(∀ m ∈ ks,m ∈ ms)→ks.length ≤ ms.length
  | [],_,_,_=>Nat.zero_le _
  | k :: ks,ms,h,s=>by
    obtain ⟨h1,h2⟩:=List.nodup_cons.mp h
    have hk:=s k List.mem_cons_self
    have:=nodup_len (ms:=ms.erase k) h2 fun m hm=>(List.mem_erase_of_ne (fun z=>h1 (by rw [← z]; exact hm))).mpr (s m (List.mem_cons_of_mem _ hm))
    rw [List.length_erase_of_mem hk] at this
    have hp:0 < ms.length:=List.length_pos_of_mem hk
    rw [List.length_cons]
    omega
theorem Knows.taken {L:Nat} {kvs:List (List Nat × List Nat)} {ks:List (List Nat)} {k b:Nat} (W:Knows L kvs ks k b):ks.length ≤ k:=by
  have:=nodup_len W.tnd W.sub
  rw [List.length_map] at this
  exact Nat.le_trans this W.few
theorem Knows.take {L:Nat} {kvs:List (List Nat × List Nat)} {ks:List (List Nat)} {k b:Nat} (W:Knows L kvs ks k b) {m:List Nat} (h:m ∈ kvs.map (·.1)) (n:¬ m ∈ ks):Knows L kvs (ks ++ [m]) k b:=
  ⟨W.nd,W.mar,W.few,fun y hy=>by
    rcases List.mem_append.mp hy with hy | hy
    · exact W.sub y hy
    · rw [List.mem_singleton.mp hy]; exact h,by
    rw [List.nodup_append]
    exact ⟨W.tnd,by simp,fun a ha b hb=>by rw [List.mem_singleton.mp hb]; intro z; subst z; exact n ha⟩⟩
structure FirstB (kvs:List (List Nat × List Nat)) (lo v:Option (List Nat)):Prop where
  no:v = none→∀ k ∈ kvs.map (·.1),isBeh lo k = false
  yes:∀ m,v = some m→m ∈ kvs.map (·.1)∧isBeh lo m = true∧∀ k ∈ kvs.map (·.1),isBeh lo k = true→¬ k < m
theorem FirstB.ok {kvs:List (List Nat × List Nat)} {lo v:Option (List Nat)} (F:FirstB kvs lo v):OkLH lo v:=fun l u e1 e2=>by
  have:=(F.yes u e2).2.1
  rw [e1] at this
  exact of_decide_eq_true this
theorem FirstB.marks {L:Nat} {kvs:List (List Nat × List Nat)} {ks:List (List Nat)} {k b:Nat} {lo v:Option (List Nat)} (F:FirstB kvs lo v) (W:Knows L kvs ks k b) (hb:b ≤ 999) (hl:∀ l,lo = some l→l ∈ kvs.map (·.1)):MarksOk L lo v∧lenO lo ≤ b∧lenO v ≤ b:=by
  refine ⟨⟨fun m e=>?_,fun m e=>?_⟩,?_,?_⟩
  · have:=W.mark (hl m e); exact ⟨this.1,by omega⟩
  · have:=W.mark (F.yes m e).1; exact ⟨this.1,by omega⟩
  · cases lo with
    | none=>exact Nat.zero_le _
    | some l=>exact (W.mark (hl l rfl)).2
  · cases v with
    | none=>exact Nat.zero_le _
    | some l=>exact (W.mark (F.yes l rfl).1).2
theorem FirstB.new {kvs:List (List Nat × List Nat)} {lo v:Option (List Nat)} (F:FirstB kvs lo v) {m:List Nat} (h1:∀ l,lo = some l→l < m) (h2:∀ u,v = some u→m < u):¬ m ∈ kvs.map (·.1):=fun hm=>by
  have hb:isBeh lo m = true:=by
    cases lo with
    | none=>rfl
    | some l=>exact decide_eq_true (h1 l rfl)
  cases v with
  | none=>have:=F.no rfl m hm; rw [hb] at this; cases this
  | some u=>exact (F.yes u rfl).2.2 m hm hb (h2 u rfl)
theorem Knows.put {L:Nat} {kvs:List (List Nat × List Nat)} {ks:List (List Nat)} {k b:Nat} (W:Knows L kvs ks k b) {m t:List Nat} (hm:Mark L m) (hl:m.length ≤ b + 1) (ht:Thing t) (hn:¬ m ∈ kvs.map (·.1)):Knows L (kvs ++ [(m,t)]) ks (k + 1) (b + 1):=by
  refine ⟨?_,fun kv hkv=>?_,?_,fun y hy=>?_,W.tnd⟩
  · rw [List.map_append,List.nodup_append]
    exact ⟨W.nd,by simp,fun a ha b hb=>by
      intro z
      subst z
      have:a = m:=by simpa using hb
      rw [this] at ha
      exact hn ha⟩
  · rcases List.mem_append.mp hkv with h | h
    · have:=W.mar kv h; exact ⟨this.1,by omega,this.2.2⟩
    · rw [List.mem_singleton.mp h]; exact ⟨hm,hl,ht⟩
  · rw [List.length_append]; have:=W.few; simp; omega
  · rw [List.map_append]; exact List.mem_append_left _ (W.sub y hy)
theorem val_th (m:List Nat):∀ kvs:List (List Nat × List Nat),¬ m ∈ kvs.map (·.1)→valV (thD kvs) (Key.inr (txt m)) = none
  | [],_=>by simp [thD,valV_nil]
  | k :: kvs,h=>by
    show valV ((Key.inr (txt k.1),strV k.2) :: thD kvs) _ = _
    rw [valV_neg (fun z=>h (by have e:k.1 = m:=txt_inj.mp (by injection z); rw [← e]; simp))]
    exact val_th m kvs fun z=>h (List.mem_cons_of_mem _ z)
theorem Hnd.put {C:Addr} {H:Hp} {x dx pr pt pk:Addr} {L h j:Nat} {kvs:List (List Nat × List Nat)} {ks:List (List Nat)} (S:Hnd C H x dx pr pt pk L h j kvs ks) {m t:List Nat} (hm:¬ m ∈ kvs.map (·.1)):Hnd C (upd H pt (.dK (putK (thD kvs) (Key.inr (txt m)) (strV t)))) x dx pr pt pk L h j (kvs ++ [(m,t)]) ks:=by
  have n1:x ≠ pt:=fun z=>by subst z; have:=S.ins.symm.trans S.tho; cases this
  have n2:dx ≠ pt:=fun z=>by subst z; have:=S.own.symm.trans S.tho; cases this
  have e:putK (thD kvs) (Key.inr (txt m)) (strV t) = thD (kvs ++ [(m,t)]):=by
    rw [putK_new _ (val_th m kvs hm)]
    unfold thD
    rw [List.map_append]
    rfl
  rw [e]
  exact ⟨by rw [upd_ne n1]; exact S.ins,by rw [upd_ne n2]; exact S.own,upd_same,by rw [upd_ne (Ne.symm S.apart)]; exact S.tak,S.apart⟩
def spAskHand (c:Addr):Sp:=fun vs H Q E=>∃ (i n:Int),vs = [.int i,.int n]∧((0 ≤ i∧i < n)→Q .non H)∧(¬ (0 ≤ i∧i < n)→E (.ref c) none H)
theorem read_askHand {c:Addr} {m:List Nat} {N:List Str} {vs:List V} {H:Hp} {Q:VK} {E:XK} (hN:N.length = 2) (h:spAskHand c vs H Q E):rdAskPlace c E m { nx:=fun _ H'=>Q .non H',rt:=Q } (L2.start N vs) H:=read_askPlace hN h
def LetOk (L h:Int):Prop:=2 ≤ L∧L ≤ 26∧1 ≤ h∧h < L
def spHInit (C cl ch:Addr):Sp:=fun vs H Q E=>∃ (x dx:Addr) (L h j:Int),vs = [.ref x,.int L,.int h,.int j]∧H x = some (.ins C dx [])∧H dx = some (.own x)∧
  (LetOk L h→0 ≤ j∧j < h→∀ H' pr pt pk,Keeps [x] H H'→Hnd C H' x dx pr pt pk L.toNat h.toNat j.toNat [] []→H' pr = some (.lst [])→H pr = none→H pt = none→H pk = none→Q .non H')∧
  (¬ LetOk L h→E (.ref cl) none H)∧(LetOk L h→¬ (0 ≤ j∧j < h)→E (.ref ch) none H)
def rdHInit (K:PySem.W.Frag) (c d:Addr) (E:XK):TS:=
    tSeq (tDrop (tCall (spAskL c) [] E (tCons (tVar 1) (tCons (tVar 2) tNil))))
      (tSeq (tDrop (tCall (spAskHand d) [] E (tCons (tVar 3) (tCons (tVar 2) tNil))))
      (tSeq (sFld K (tVar 0) (tVar 1) "letters")
      (tSeq (sFld K (tVar 0) (tVar 2) "hands")
      (tSeq (sFld K (tVar 0) (tVar 3) "own_number")
      (tSeq (sFld K (tVar 0) (tLst tNil) "renewals")
      (tSeq (sFld K (tVar 0) tDNewK "thing_of")
      (sFld K (tVar 0) tDNewK "taken")))))))
theorem read_hInit {K:PySem.W.Frag} {C c d:Addr} (cl:HandC K C) {N:List Str} {vs:List V} {H:Hp} {Q:VK} {E:XK} (hN:N.length = 4) (h:spHInit C c d vs H Q E):rdHInit K c d E { nx:=fun _ H'=>Q .non H',rt:=Q } (L2.start N vs) H:=by
  obtain ⟨x,dx,L,h,j,rfl,hx,hd,q1,q2,q3⟩:=h
  unfold rdHInit L2.start
  rw [hN]
  refine seq_any fun k hk=>?_
  and_intros
  refine ⟨L,h,rfl,fun hL=>hk _ _ ?_,fun hL=>q2 hL⟩
  clear hk k
  refine seq_any fun k hk=>?_
  and_intros
  refine ⟨j,h,rfl,fun hJ=>hk _ _ ?_,fun hJ=>q3 hL hJ⟩
  clear hk k
  have q1:=q1 hL hJ
  clear q2 q3
  have hxd:dx ≠ x:=fun z=>by subst z; rw [hx] at hd; cases hd
  have k0:Keeps [x] H H:=fun b o e _=>e
  refine seq_any fun k hk=>?_
  refine ⟨.int L,rfl,_,rfl,x,C,dx,[],rfl,hx,cl.cls,cl.nl,by decide,hk _ _ ?_⟩
  clear hk k
  have k1:=k0.upd (p:=x) (o:=.ins C dx (putF "letters" (.int L) [])) (.inl List.mem_cons_self)
  have h1:(upd H x (.ins C dx (putF "letters" (.int L) []))) x = some (.ins C dx [("letters",.int L)]):=upd_same
  generalize upd H x _ = H1 at k1 h1 ⊢
  refine seq_any fun k hk=>?_
  refine ⟨.int h,rfl,_,rfl,x,C,dx,_,rfl,h1,cl.cls,cl.nh,by simp,hk _ _ ?_⟩
  clear hk k
  have k2:=k1.upd (p:=x) (o:=.ins C dx (putF "hands" (.int h) [("letters",.int L)])) (.inl List.mem_cons_self)
  have h2 : (upd H1 x (.ins C dx (putF "hands" (.int h) [("letters", .int L)]))) x = some (.ins C dx [("letters", .int L), ("hands", .int h)]) := upd_same
  generalize upd H1 x _ = H2 at k2 h2 ⊢
  clear k1 h1
  refine seq_any fun k hk=>?_
  refine ⟨.int j,rfl,_,rfl,x,C,dx,_,rfl,h2,cl.cls,cl.nn,by simp,hk _ _ ?_⟩
  clear hk k
  have k3 := k2.upd (p := x) (o := .ins C dx (putF "own_number" (.int j) [("letters", .int L), ("hands", .int h)])) (.inl List.mem_cons_self)
  have h3 : (upd H2 x (.ins C dx (putF "own_number" (.int j) [("letters", .int L), ("hands", .int h)]))) x = some (.ins C dx [("letters", .int L), ("hands", .int h), ("own_number", .int j)]) := upd_same
  generalize upd H2 x _ = H3 at k3 h3 ⊢
  clear k2 h2
  have fresh:∀ {Hn:Hp} {p:Addr},Keeps [x] H Hn→Hn p = none→p ≠ x→H p = none:=fun {Hn p} k e n=>by
    cases w:H p with
    | none=>rfl
    | some o=>have:=k p o w (fun z=>n (List.mem_singleton.mp z)); rw [e] at this; cases this
  refine seq_any fun k hk=>?_
  unfold sFld
  and_intros
  refine ⟨by decide, fun pr hpr => ⟨C, dx, [("letters", .int L), ("hands", .int h), ("own_number", .int j)], ?_⟩⟩
  have nr:x ≠ pr:=fun z=>by subst z; rw [h3] at hpr; cases hpr
  have gr:=fresh k3 hpr (Ne.symm nr)
  refine ⟨by rw [upd_ne nr]; exact h3,cl.cls,cl.nr,by simp,hk _ _ ?_⟩
  clear hk k
  have k4 := (k3.upd (p := pr) (o := .lst []) (.inr hpr)).upd (p := x) (o := .ins C dx (putF "renewals" (.ref pr) [("letters", .int L), ("hands", .int h), ("own_number", .int j)])) (.inl List.mem_cons_self)
  have h4 : (upd (upd H3 pr (.lst [])) x (.ins C dx (putF "renewals" (.ref pr) [("letters", .int L), ("hands", .int h), ("own_number", .int j)]))) x = some (.ins C dx [("letters", .int L), ("hands", .int h), ("own_number", .int j), ("renewals", .ref pr)]) := upd_same
  have r4 : (upd (upd H3 pr (.lst [])) x (.ins C dx (putF "renewals" (.ref pr) [("letters", .int L), ("hands", .int h), ("own_number", .int j)]))) pr = some (.lst []) := by rw [upd_ne (Ne.symm nr), upd_same]
  generalize upd (upd H3 pr _) x _ = H4 at k4 h4 r4 ⊢
  clear k3 h3 hpr
  refine seq_any fun k hk=>?_
  unfold sFld tDNewK
  and_intros
  refine fun pt hpt => ⟨C, dx, [("letters", .int L), ("hands", .int h), ("own_number", .int j), ("renewals", .ref pr)], ?_⟩
  have nt:x ≠ pt:=fun z=>by subst z; rw [h4] at hpt; cases hpt
  have nrt:pr ≠ pt:=fun z=>by subst z; rw [r4] at hpt; cases hpt
  have gt:=fresh k4 hpt (Ne.symm nt)
  refine ⟨by rw [upd_ne nt]; exact h4,cl.cls,cl.nt,by simp,hk _ _ ?_⟩
  clear hk k
  have k5 := (k4.upd (p := pt) (o := .dK []) (.inr hpt)).upd (p := x) (o := .ins C dx (putF "thing_of" (.ref pt) [("letters", .int L), ("hands", .int h), ("own_number", .int j), ("renewals", .ref pr)])) (.inl List.mem_cons_self)
  have h5 : (upd (upd H4 pt (.dK [])) x (.ins C dx (putF "thing_of" (.ref pt) [("letters", .int L), ("hands", .int h), ("own_number", .int j), ("renewals", .ref pr)]))) x = some (.ins C dx [("letters", .int L), ("hands", .int h), ("own_number", .int j), ("renewals", .ref pr), ("thing_of", .ref pt)]) := upd_same
  have r5 : (upd (upd H4 pt (.dK [])) x (.ins C dx (putF "thing_of" (.ref pt) [("letters", .int L), ("hands", .int h), ("own_number", .int j), ("renewals", .ref pr)]))) pr = some (.lst []) := by rw [upd_ne (Ne.symm nr), upd_ne nrt]; exact r4
  have t5 : (upd (upd H4 pt (.dK [])) x (.ins C dx (putF "thing_of" (.ref pt) [("letters", .int L), ("hands", .int h), ("own_number", .int j), ("renewals", .ref pr)]))) pt = some (.dK []) := by rw [upd_ne (Ne.symm nt), upd_same]
  generalize upd (upd H4 pt _) x _ = H5 at k5 h5 r5 t5 ⊢
  clear k4 h4 r4 hpt
  unfold sFld tDNewK
  and_intros
  refine fun pk hpk => ⟨C, dx, [("letters", .int L), ("hands", .int h), ("own_number", .int j), ("renewals", .ref pr), ("thing_of", .ref pt)], ?_⟩
  have nk:x ≠ pk:=fun z=>by subst z; rw [h5] at hpk; cases hpk
  have nrk:pr ≠ pk:=fun z=>by subst z; rw [r5] at hpk; cases hpk
  have ntk:pt ≠ pk:=fun z=>by subst z; rw [t5] at hpk; cases hpk
  have gk:=fresh k5 hpk (Ne.symm nk)
  refine ⟨by rw [upd_ne nk]; exact h5,cl.cls,cl.nk,by simp,?_⟩
  have k6 := (k5.upd (p := pk) (o := .dK []) (.inr hpk)).upd (p := x) (o := .ins C dx (putF "taken" (.ref pk) [("letters", .int L), ("hands", .int h), ("own_number", .int j), ("renewals", .ref pr), ("thing_of", .ref pt)])) (.inl List.mem_cons_self)
  have eL:((L.toNat:Nat):Int) = L:=Int.toNat_of_nonneg (by have:=hL.1; omega)
  have eh:((h.toNat:Nat):Int) = h:=Int.toNat_of_nonneg (by have:=hL.2.2.1; omega)
  have ej:((j.toNat:Nat):Int) = j:=Int.toNat_of_nonneg hJ.1
  refine q1 _ pr pt pk k6 ⟨?_,k6 dx _ hd (fun z=>hxd (List.mem_singleton.mp z)),?_,?_,ntk⟩ ?_ gr gt gk
  · rw [upd_same,handF,eL,eh,ej]; rfl
  · rw [upd_ne (Ne.symm nt),upd_ne ntk]; exact t5
  · rw [upd_ne (Ne.symm nk),upd_same]; rfl
  · rw [upd_ne (Ne.symm nr),upd_ne nrk]; exact r5
def spHPut (C ct cp:Addr):Sp:=fun vs H Q E=>∃ (x dx pr pt pk:Addr) (L h j:Nat) (kvs:List (List Nat × List Nat)) (ks:List (List Nat)) (k b:Nat) (i:Int) (t:List Nat),vs = [.ref x,.int i,.str (txt t)]∧Hnd C H x dx pr pt pk L h j kvs ks∧Hands L h j∧Knows L kvs ks k b∧k ≤ 62∧b ≤ 998∧t.length ≤ 100000∧
  (¬ Thing t→∀ H',Same H H'→E (.ref ct) none H')∧
  ∀ zs,Shown kvs ks zs→(Thing t→(0 ≤ i∧i ≤ zs.length)→∀ H' v n w m,Keeps [pt] H H'→FirstB kvs (aheadO zs i.toNat) v→Found L (endsL L h j) (aheadO zs i.toNat) v n w m→Hnd C H' x dx pr pt pk L h j (kvs ++ [(m,t)]) ks→Knows L (kvs ++ [(m,t)]) ks (k + 1) (b + 1)→Q (.str (txt m)) H')∧
    (Thing t→¬ (0 ≤ i∧i ≤ zs.length)→∀ H',Same H H'→E (.ref cp) none H')
def rdHPut (K:PySem.W.Frag) (C ct cp cr:Addr) (E:XK):TS:=
    tSeq (tDrop (tCall (spAskThing ct) [] E (tCons (tVar 2) tNil)))
      (tSeq (tAsg (tMeth C "marks" (spHMarks C) [] E0 (tVar 0) tNil) (gName 3))
      (tSeq (tDrop (tCall (spAskPlace cp) [] E (tCons (tVar 1) (tCons (tOp rAddI (tCB (rLenL K) (tCons (tVar 3) tNil)) (tC (.int 1))) tNil))))
      (tSeq (tAsg (tIf (tTest (tOp rGtI (tVar 1) (tC (.int 0)))) (tOp (rIxL K) (tVar 3) (tOp rSubI (tVar 1) (tC (.int 1)))) (tC .non)) (gName 4))
      (tSeq (tAsg (tCall (spBetween cr) [] E (tCons (tFld K (tVar 0) "letters") (tCons (tFld K (tVar 0) "hands") (tCons (tFld K (tVar 0) "own_number") (tCons (tVar 4) (tCons (tMeth C "first_behind" (spHBehind K C) [] E0 (tVar 0) (tCons (tVar 4) tNil)) tNil)))))) (gName 5))
      (tSeq (sDPut (tFld K (tVar 0) "thing_of") (tVar 5) (tVar 2))
      (tRet (tVar 5)))))))
theorem read_hPut {K:PySem.W.Frag} {C ct cp cr:Addr} (cl:HandC K C) {N:List Str} {vs:List V} {H:Hp} {Q:VK} {E:XK} (hN:N.length = 6) (h:spHPut C ct cp vs H Q E):rdHPut K C ct cp cr E { nx:=fun _ H'=>Q .non H',rt:=Q } (L2.start N vs) H:=by
  obtain ⟨x,dx,pr,pt,pk,L,h,j,kvs,ks,k,b,i,t,rfl,S,D,W,hk,hb,ht,qn,q⟩:=h
  unfold rdHPut L2.start
  rw [hN]
  refine seq_any fun c1 hc=>?_
  and_intros
  refine ⟨t,rfl,ht,fun H1 s1=>⟨fun th=>hc _ _ ?_,fun no=>qn no H1 s1⟩⟩
  clear hc c1
  have S1:=S.same s1
  have few:=W.few
  refine seq_set fun c1 hc=>?_
  refine hmeth_go S1 (fun R r=>⟨_,rfl,r⟩) rfl ⟨x,dx,pr,pt,pk,L,h,j,kvs,ks,rfl,S1,by omega,W.nd,fun H2 p zs s2 hp up mem=>hc _ _ ?_⟩
  clear hc c1
  obtain ⟨qg,qp⟩:=q zs ⟨up,mem⟩
  have s3:=(s1.trans s2).new hp (o:=.lst (zs.map strV))
  have hZ:(upd H2 p (.lst (zs.map strV))) p = some (.lst (zs.map strV)):=upd_same
  generalize upd H2 p _ = H3 at s3 hZ ⊢
  have S3:=S.same s3
  refine seq_any fun c1 hc=>?_
  and_intros
  refine lenL_go (SqL.of hZ) ⟨_,rfl,?_⟩
  rw [List.length_map]
  refine ⟨i,_,rfl,fun hi=>hc _ _ ?_,fun hi=>qp th (by omega) H3 s3⟩
  clear hc c1
  have qg:=qg th (by omega)
  refine seq_set fun c1 hc=>?_
  and_intros
  have w:c1 (oV (aheadO zs i.toNat)) H3:=hc _ _ (by
    clear hc c1
    have hlo:∀ l,aheadO zs i.toNat = some l→l ∈ kvs.map (·.1):=fun l e=>by
      unfold aheadO at e
      split at e
      · cases e
      · exact ((mem l).mp (List.mem_of_getElem? e)).1
    generalize aheadO zs i.toNat = lo at qg hlo ⊢
    refine seq_set fun c1 hc=>?_
    and_intros
    refine hfl_go S3 cl rfl (hfh_go S3 cl rfl (hfn_go S3 cl rfl ?_))
    refine hmeth_go S3 (fun R r=>⟨_,rfl,r⟩) rfl ?_
    and_intros
    refine ⟨x,dx,pr,pt,pk,L,h,j,kvs,ks,lo,rfl,S3,by omega,fun H4 v s4 v1 v2=>?_⟩
    have F:FirstB kvs lo v:=⟨v1,v2⟩
    obtain ⟨mo,hl1,hl2⟩:=F.marks W (by omega) hlo
    refine ⟨L,h,j,lo,v,rfl,D,mo,fun ok H5 n w m s5 Fo=>hc _ _ ?_,fun z=>absurd F.ok z⟩
    clear hc c1
    obtain ⟨g1,g2,g3,g4⟩:=Fo.allH D mo ok
    have nm:=F.new g3 g4
    have s5:=(s3.trans s4).trans s5
    have S5:=S.same s5
    refine seq_any fun c1 hc=>?_
    simp? [sDPut]
    refine hft_go S5 cl rfl ⟨pt,rfl,_,DPut.k (k:=Key.inr (txt m)) S5.tho (by rw [thD,List.length_map,sizeLine_eq]; omega),hc _ _ ?_⟩
    clear hc c1
    have S6:=S5.put (t:=t) nm
    have k6:Keeps [pt] H (upd H5 pt (.dK (putK (thD kvs) (Key.inr (txt m)) (strV t)))):=(s5.keeps _).upd (.inl List.mem_cons_self)
    and_intros
    exact qg _ v n w m k6 F Fo S6 (W.put g1 (by omega) th nm))
  clear hc
  by_cases h0:0 < i
  · rw [if_pos h0]
    obtain ⟨m,hm⟩:=some_at (l:=zs) (i:=i.toNat - 1) (by omega)
    have e:aheadO zs i.toNat = some m:=by unfold aheadO; rw [if_neg (by omega)]; exact hm
    rw [e] at w
    exact ixL_go (v:=strV m) (SqL.of hZ) (by omega) (by rw [show (i - 1).toNat = i.toNat - 1 by omega,List.getElem?_map,hm]; rfl) w
  · rw [if_neg h0]
    have e:aheadO zs i.toNat = none:=by unfold aheadO; rw [if_pos (by omega)]
    rw [e] at w
    exact w
def RowsC (H:Hp):List Addr→List (List RwN)→Prop
  | [],[]=>True
  | a :: as,r :: R=>(∃ xs,H a = some (.lst xs)∧Prs H xs (r.map rowP))∧RowsC H as R
  | _,_=>False
theorem RowsC.same {H H':Hp} (s:Same H H'):∀ {as:List Addr} {R:List (List RwN)},RowsC H as R→RowsC H' as R
  | [],[],_=>trivial
  | [],_ :: _,h=>h.elim
  | _ :: _,[],h=>h.elim
  | _ :: _,_ :: _,⟨⟨xs,e,p⟩,r⟩=>⟨⟨xs,s _ _ e,p.same s⟩,RowsC.same s r⟩
theorem RowsC.len {H:Hp}:∀ {as:List Addr} {R:List (List RwN)},RowsC H as R→as.length = R.length
  | [],[],_=>rfl
  | [],_ :: _,h=>h.elim
  | _ :: _,[],h=>h.elim
  | _ :: _,_ :: _,⟨_,r⟩=>by rw [List.length_cons,List.length_cons,RowsC.len r]
theorem RowsC.app {H:Hp}:∀ {as:List Addr} {R:List (List RwN)} {bs:List Addr} {S:List (List RwN)},RowsC H as R→RowsC H bs S→RowsC H (as ++ bs) (R ++ S)
  | [],[],_,_,_,h=>h
  | [],_ :: _,_,_,h,_=>h.elim
  | _ :: _,[],_,_,h,_=>h.elim
  | _ :: _,_ :: _,_,_,⟨a,r⟩,h=>⟨a,RowsC.app r h⟩
theorem RowsC.get {H:Hp}:∀ {as:List Addr} {R:List (List RwN)} {i:Nat} {a:Addr},RowsC H as R→as[i]? = some a→∃ r xs,R[i]? = some r∧H a = some (.lst xs)∧Prs H xs (r.map rowP)
  | [],_,_,_,_,e=>by simp at e
  | _ :: _,[],_,_,h,_=>h.elim
  | _ :: _,r :: _,0,_,⟨⟨xs,h,p⟩,_⟩,e=>by
    have:_ = _:=Option.some.inj e
    subst this
    exact ⟨r,xs,rfl,h,p⟩
  | _ :: _,_ :: _,i + 1,_,⟨_,r⟩,e=>by
    obtain ⟨p,t,a,b,c⟩:=RowsC.get r (i:=i) (by simpa using e)
    exact ⟨p,t,by simpa using a,b,c⟩
def stP (z:List Nat × List Nat):V × V:=(strV z.1,strV z.2)
structure StA (H:Hp) (p p1 p2 p3:Addr) (bs:List Addr) (ts:List V) (L h:Nat) (R:List (List RwN)) (zs:List (List Nat × List Nat)) (ws:List (List Nat)):Prop where
  top:H p = some (.tup [.int L,.int h,.ref p1,.ref p2,.ref p3])
  ren:H p1 = some (.lst (bs.map V.ref))
  row:RowsC H bs R
  thi:H p2 = some (.lst ts)
  prs:Prs H ts (zs.map stP)
  tak:H p3 = some (.lst (ws.map strV))
theorem StA.same {H H':Hp} {p p1 p2 p3:Addr} {bs:List Addr} {ts:List V} {L h:Nat} {R:List (List RwN)} {zs:List (List Nat × List Nat)} {ws:List (List Nat)} (A:StA H p p1 p2 p3 bs ts L h R zs ws) (s:Same H H'):StA H' p p1 p2 p3 bs ts L h R zs ws:=
  ⟨s _ _ A.top,s _ _ A.ren,A.row.same s,s _ _ A.thi,A.prs.same s,s _ _ A.tak⟩
def spStateOf:Sp:=fun vs H Q _=>∃ (L h:Nat) (pr pt pk:Addr) (as:List Addr) (R:List (List RwN)) (ts:List V) (zs:List (List Nat × List Nat)) (ws:List (List Nat)),vs = [.int L,.int h,.ref pr,.ref pt,.ref pk]∧H pr = some (.lst (as.map V.ref))∧RowsC H as R∧H pt = some (.lst ts)∧Prs H ts (zs.map stP)∧H pk = some (.lst (ws.map strV))∧R.length ≤ 10000∧
  ∀ H' p p1 p2 p3 bs,Same H H'→StA H' p p1 p2 p3 bs ts L h R zs ws→(p :: p1 :: p2 :: p3 :: bs).Nodup→(∀ b ∈ p :: p1 :: p2 :: p3 :: bs,H b = none)→Q (.ref p) H'
def rdStateOf (K:PySem.W.Frag):TS:=
    tRet (tTup (tCons (tVar 0) (tCons (tVar 1) (tCons (tComp (iList K (tVar 2)) [] tYes (tCB (rListOf K) (tCons (tVar 0) tNil))) (tCons (tCB (rListOf K) (tCons (tVar 3) tNil)) (tCons (tCB (rListOf K) (tCons (tVar 4) tNil)) tNil))))))
theorem Same.free1 {H H':Hp} (s:Same H H') {p:Addr} (h:H' p = none):H p = none:=by
  cases w:H p with
  | none=>rfl
  | some o=>rw [s p o w] at h; cases h
def SOInv (H:Hp) (R:List (List RwN)):Nat→List V→Hp→Prop:=fun i ys H'=>Same H H'∧∃ bs:List Addr,ys = bs.map V.ref∧RowsC H' bs (R.take i)∧bs.Nodup∧(∀ b ∈ bs,H b = none)∧bs.length ≤ i
theorem read_stateOf {K:PySem.W.Frag} {N:List Str} {vs:List V} {H:Hp} {Q:VK} {E:XK} (hN:N.length = 5) (h:spStateOf vs H Q E):rdStateOf K { nx:=fun _ H'=>Q .non H',rt:=Q } (L2.start N vs) H:=by
  obtain ⟨L,h,pr,pt,pk,as,R,ts,zs,ws,rfl,hr,hR,ht,hz,hw,hl,q⟩:=h
  have al:=hR.len
  unfold rdStateOf L2.start
  rw [hN]
  and_intros
  refine comp_l (a:=pr) (xs:=as.map V.ref) (fun Q h=>⟨_,rfl,h⟩) (SqL.of hr) (SOInv H R) ⟨Same.refl _,[],rfl,trivial,List.nodup_nil,fun b hb=>(nomatch hb),Nat.zero_le _⟩ ?_ (by rw [List.length_map,sizeLine_eq]; omega) ?_ ?_
  · rintro i ys H' _ ⟨s,bs,rfl,_,_,_,hbl⟩
    exact ⟨SqL.of (s _ _ hr),by rw [List.length_map]; exact hbl⟩
  · rintro i v ys H' hv ⟨s,bs,rfl,hrows,hnd,hfr,hbl⟩ W hW
    rw [List.getElem?_map] at hv
    obtain ⟨a,ha,rfl⟩:=Option.map_eq_some_iff.mp hv
    obtain ⟨r,xs,er,hx,px⟩:=(hR.same s).get ha
    and_intros
    refine ⟨a,xs,rfl,.inl (SqL.of hx),fun l hl=>?_⟩
    have e:R.take (i + 1) = R.take i ++ [r]:=by rw [List.take_add_one,er]; rfl
    have s2:=Same.up H' hl (o:=.lst xs)
    have:=hW (bs.map V.ref ++ [.ref l]) (upd H' l (.lst xs)) ⟨s.trans s2,bs ++ [l],by rw [List.map_append]; rfl,by rw [e]; exact (hrows.same s2).app ⟨⟨xs,upd_same,px.same s2⟩,trivial⟩,?_,fun b hb=>?_,by rw [List.length_append]; simp; omega⟩
    · exact this
    · rw [List.nodup_append]
      exact ⟨hnd,by simp,fun b hb c hc=>by
        rw [List.mem_singleton.mp hc]
        intro z
        subst z
        obtain ⟨j,hj⟩:=List.getElem?_of_mem hb
        obtain ⟨_,_,_,w,_⟩:=hrows.get hj
        rw [w] at hl; cases hl⟩
    · rcases List.mem_append.mp hb with hb | hb
      · exact hfr b hb
      · rw [List.mem_singleton.mp hb]; exact s.free1 hl
  · rintro ys H1 ⟨s,bs,rfl,hrows,hnd,hfr,hbl⟩ p1 hp1
    rw [List.length_map,al,List.take_length] at hrows
    have nb1:¬ p1 ∈ bs:=fun hb=>by
      obtain ⟨j,hj⟩:=List.getElem?_of_mem hb
      obtain ⟨_,_,_,w,_⟩:=hrows.get hj
      rw [w] at hp1; cases hp1
    have s1:=s.new hp1 (o:=.lst (bs.map V.ref))
    have r1:=hrows.same (Same.up H1 hp1 (o:=.lst (bs.map V.ref)))
    have e1:(upd H1 p1 (.lst (bs.map V.ref))) p1 = some (.lst (bs.map V.ref)):=upd_same
    have f1:=s.free1 hp1
    generalize upd H1 p1 _ = H2 at s1 r1 e1 ⊢
    refine ⟨pt,ts,rfl,.inl (SqL.of (s1 _ _ ht)),fun p2 hp2=>⟨pk,ws.map strV,rfl,.inl (SqL.of ((s1.new hp2) _ _ hw)),fun p3 hp3=>⟨by decide,fun p hp=>?_⟩⟩⟩
    have f2:=s1.free1 hp2
    have nb2:¬ p2 ∈ bs:=fun hb=>by
      obtain ⟨j,hj⟩:=List.getElem?_of_mem hb
      obtain ⟨_,_,_,w,_⟩:=r1.get hj
      rw [w] at hp2; cases hp2
    have n12:p1 ≠ p2:=fun z=>by subst z; rw [e1] at hp2; cases hp2
    have s2:=Same.up H2 hp2 (o:=.lst ts)
    have e2:(upd H2 p2 (.lst ts)) p2 = some (.lst ts):=upd_same
    generalize upd H2 p2 _ = H3 at s2 e2 hp3 hp ⊢
    have r2:=r1.same s2
    have f3:=(s1.trans s2).free1 hp3
    have nb3:¬ p3 ∈ bs:=fun hb=>by
      obtain ⟨j,hj⟩:=List.getElem?_of_mem hb
      obtain ⟨_,_,_,w,_⟩:=r2.get hj
      rw [w] at hp3; cases hp3
    have n13:p1 ≠ p3:=fun z=>by subst z; rw [s2 _ _ e1] at hp3; cases hp3
    have n23:p2 ≠ p3:=fun z=>by subst z; rw [e2] at hp3; cases hp3
    have s3:=Same.up H3 hp3 (o:=.lst (ws.map strV))
    have e3:(upd H3 p3 (.lst (ws.map strV))) p3 = some (.lst (ws.map strV)):=upd_same
    generalize upd H3 p3 _ = H4 at s3 e3 hp ⊢
    have r3:=r2.same s3
    have f4:=((s1.trans s2).trans s3).free1 hp
    have nb4:¬ p ∈ bs:=fun hb=>by
      obtain ⟨j,hj⟩:=List.getElem?_of_mem hb
      obtain ⟨_,_,_,w,_⟩:=r3.get hj
      rw [w] at hp; cases hp
    have n1:p ≠ p1:=fun z=>by subst z; rw [s3 _ _ (s2 _ _ e1)] at hp; cases hp
    have n2:p ≠ p2:=fun z=>by subst z; rw [s3 _ _ e2] at hp; cases hp
    have n3:p ≠ p3:=fun z=>by subst z; rw [e3] at hp; cases hp
    have s4:=Same.up H4 hp (o:=.tup [.int L,.int h,.ref p1,.ref p2,.ref p3])
    have sa:=((s1.trans s2).trans s3).trans s4
    refine q _ p p1 p2 p3 bs sa ⟨upd_same,s4 _ _ (s3 _ _ (s2 _ _ e1)),r3.same s4,s4 _ _ (s3 _ _ e2),hz.same sa,s4 _ _ e3⟩ ?_ ?_
    · simp only [List.nodup_cons,List.mem_cons,not_or]
      exact ⟨⟨n1,n2,n3,nb4⟩,⟨n12,n13,nb1⟩,⟨n23,nb2⟩,nb3,hnd⟩
    · intro b hb
      simp only [List.mem_cons] at hb
      rcases hb with rfl | rfl | rfl | rfl | hb
      · exact f4
      · exact f1
      · exact f2
      · exact f3
      · exact hfr b hb
structure Told (kvs:List (List Nat × List Nat)) (ks:List (List Nat)) (zs:List (List Nat × List Nat)) (ws:List (List Nat)):Prop where
  perm:zs.Perm kvs
  up:(zs.map (·.1)).Pairwise (· < ·)
  tperm:ws.Perm ks
  tup:ws.Pairwise (· < ·)
def spHState (C:Addr):Sp:=fun vs H Q _=>∃ (x dx pr pt pk:Addr) (L h j:Nat) (kvs:List (List Nat × List Nat)) (ks:List (List Nat)) (as:List Addr) (R:List (List RwN)),vs = [.ref x]∧Hnd C H x dx pr pt pk L h j kvs ks∧kvs.length < 64∧(kvs.map (·.1)).Nodup∧ks.length < 64∧ks.Nodup∧H pr = some (.lst (as.map V.ref))∧RowsC H as R∧R.length ≤ 10000∧
  ∀ H' p p1 p2 p3 bs ts zs ws,Same H H'→Told kvs ks zs ws→StA H' p p1 p2 p3 bs ts L h R zs ws→(p :: p1 :: p2 :: p3 :: bs).Nodup→(∀ b ∈ p :: p1 :: p2 :: p3 :: bs,H b = none)→Q (.ref p) H'
def rdHState (K:PySem.W.Frag):TS:=
    tSeq (tAsg (tCB rSortedI (tCons (tBM0 K "dict" rItems (tFld K (tVar 0) "thing_of")) tNil)) (gName 1))
      (tRet (tCall spStateOf [] E0 (tCons (tFld K (tVar 0) "letters") (tCons (tFld K (tVar 0) "hands") (tCons (tFld K (tVar 0) "renewals") (tCons (tVar 1) (tCons (tCB rSortedD (tCons (tFld K (tVar 0) "taken") tNil)) tNil)))))))
theorem prs_of {H:Hp}:∀ {ys:List V} {zs:List (List Nat × List Nat)},ys.length = zs.length→(∀ (i:Nat) kv,zs[i]? = some kv→∃ t,ys[i]? = some (.ref t)∧H t = some (.tup [strV kv.1,strV kv.2]))→Prs H ys (zs.map stP)
  | [],[],_,_=>trivial
  | [],_ :: _,h,_=>by simp at h
  | _ :: _,[],h,_=>by simp at h
  | y :: ys,z :: zs,h,k=>by
    obtain ⟨t,e,ht⟩:=k 0 z rfl
    refine ⟨⟨t,Option.some.inj e,ht⟩,prs_of (by simpa using h) fun i kv e=>?_⟩
    obtain ⟨t,e,ht⟩:=k (i + 1) kv (by simpa using e)
    exact ⟨t,by simpa using e,ht⟩
theorem tkD_eq (ks:List (List Nat)):tkD ks = (ks.map fun m=>(m,V.bl true)).map fun kv=>(Key.inr (txt kv.1),kv.2):=by
  unfold tkD; rw [List.map_map]; rfl
theorem read_hState {K:PySem.W.Frag} {C:Addr} (cl:HandC K C) {N:List Str} {vs:List V} {H:Hp} {Q:VK} {E:XK} (hN:N.length = 2) (h:spHState C vs H Q E):rdHState K { nx:=fun _ H'=>Q .non H',rt:=Q } (L2.start N vs) H:=by
  obtain ⟨x,dx,pr,pt,pk,L,h,j,kvs,ks,as,R,rfl,S,h64,hnd,k64,knd,hr,hR,hl,q⟩:=h
  unfold rdHState L2.start
  rw [hN]
  refine seq_set fun c1 hc=>?_
  and_intros
  refine hft_go S cl rfl ⟨.inr (.inr (.inl ⟨rfl,.inl ⟨_,S.tho⟩⟩)),pt,_,rfl,rfl,S.tho,fun v hv=>?_⟩
  have s1:=Same.up H hv (o:=viewO v pt)
  have eV:(upd H v (viewO v pt)) v = some (viewO v pt):=upd_same
  generalize upd H v _ = H1 at s1 eV ⊢
  have S1:=S.same s1
  refine ⟨v,pt,kvs,rfl,eV,S1.tho,h64,hnd,fun H2 l ys zs s2 hl0 hl2 hp hup hlen hat=>hc _ _ ?_⟩
  clear hc c1
  have s2:=s1.trans s2
  have S2:=S.same s2
  have pz:Prs H2 ys (zs.map stP):=prs_of hlen fun i kv e=>by obtain ⟨t,a,b,_⟩:=hat i kv e; exact ⟨t,a,b⟩
  and_intros
  refine hfl_go S2 cl rfl (hfh_go S2 cl rfl (hfr_go S2 cl rfl ?_))
  refine hfk_go S2 cl rfl ⟨pk,ks.map fun m=>(m,V.bl true),rfl,by rw [← tkD_eq]; exact S2.tak,by rw [List.length_map]; exact k64,fun p3 ws hp3 hpm hle=>?_⟩
  have ek:(ks.map fun m=>(m,V.bl true)).map (·.1) = ks:=by rw [List.map_map]; exact List.map_id _
  rw [ek] at hpm
  have wlt:=lt_of_sorted hle (hpm.nodup_iff.mpr knd)
  have s3:=Same.up H2 hp3 (o:=.lst (ws.map strV))
  have e3:(upd H2 p3 (.lst (ws.map strV))) p3 = some (.lst (ws.map strV)):=upd_same
  generalize upd H2 p3 _ = H3 at s3 e3 ⊢
  have s23:=s2.trans s3
  refine ⟨L,h,pr,l,p3,as,R,ys,zs,ws,rfl,s23 _ _ hr,hR.same s23,s3 _ _ hl2,pz.same s3,e3,hl,fun H4 p p1 p2 p3 bs s4 A nd fr=>?_⟩
  exact q H4 p p1 p2 p3 bs ys zs ws (s23.trans s4) ⟨hp,hup,hpm,wlt⟩ A nd fun b hb=>s23.free1 (fr b hb)
def rowsD (R:List (List RwN)):List PyData:=R.map fun r=>.list (pairD (r.map rowP))
def stD (L h:Nat) (R:List (List RwN)) (zs:List (List Nat × List Nat)) (ws:List (List Nat)):PyData:=.tuple [.int L,.int h,.list (rowsD R),.list (pairD (zs.map stP)),.list ((ws.map txt).map PyData.str)]
structure StOk (R:List (List RwN)) (zs:List (List Nat × List Nat)) (ws:List (List Nat)):Prop where
  rows:∀ r ∈ R,∀ y ∈ r,PyData.strOk (txt y.1) = true∧∀ z,y.2 = some z→PyData.strOk (txt z) = true
  things:∀ z ∈ zs,PyData.strOk (txt z.1) = true∧PyData.strOk (txt z.2) = true
  taken:∀ w ∈ ws,PyData.strOk (txt w) = true
theorem row_ok {r:List RwN} (h:∀ y ∈ r,PyData.strOk (txt y.1) = true∧∀ z,y.2 = some z→PyData.strOk (txt z) = true):∀ p ∈ r.map rowP,OkV p.1∧OkV p.2:=fun p hp=>by
  obtain ⟨y,hy,rfl⟩:=List.mem_map.mp hp
  obtain ⟨a,b⟩:=h y hy
  refine ⟨.str a,?_⟩
  show OkV (oV y.2)
  cases e:y.2 with
  | none=>exact .non
  | some z=>exact .str (b z e)
theorem thing_ok {zs:List (List Nat × List Nat)} (h:∀ z ∈ zs,PyData.strOk (txt z.1) = true∧PyData.strOk (txt z.2) = true):∀ p ∈ zs.map stP,OkV p.1∧OkV p.2:=fun p hp=>by
  obtain ⟨z,hz,rfl⟩:=List.mem_map.mp hp
  exact ⟨.str (h z hz).1,.str (h z hz).2⟩
theorem RowsC.dat {K:PySem.W.Frag} {H:Hp}:∀ {as:List Addr} {R:List (List RwN)},RowsC H as R→(∀ r ∈ R,∀ y ∈ r,PyData.strOk (txt y.1) = true∧∀ z,y.2 = some z→PyData.strOk (txt z) = true)→DatAll K H (as.map V.ref) (rowsD R)
  | [],[],_,_=>.nil
  | [],_ :: _,h,_=>h.elim
  | _ :: _,[],h,_=>h.elim
  | _ :: _,r :: _,⟨⟨xs,e,p⟩,t⟩,ok=>.cons (.lst (SqL.of e) (p.dat (row_ok (ok r List.mem_cons_self)))) (RowsC.dat t fun q hq=>ok q (List.mem_cons_of_mem _ hq))
theorem dat_strsH {K:PySem.W.Frag} {H:Hp}:∀ ms:List (List Nat),DatAll K H (ms.map strV) ((ms.map txt).map PyData.str)
  | []=>.nil
  | m :: ms=>.cons (.str _) (dat_strsH ms)
theorem StA.dat {K:PySem.W.Frag} {H:Hp} {p p1 p2 p3:Addr} {bs:List Addr} {ts:List V} {L h:Nat} {R:List (List RwN)} {zs:List (List Nat × List Nat)} {ws:List (List Nat)} (A:StA H p p1 p2 p3 bs ts L h R zs ws) (ok:StOk R zs ws):Dat K H (.ref p) (stD L h R zs ws):=
  .tup (SqT.of A.top) (.cons (.int _) (.cons (.int _) (.cons (.lst (SqL.of A.ren) (A.row.dat ok.rows)) (.cons (.lst (SqL.of A.thi) (A.prs.dat (thing_ok ok.things))) (.cons (.lst (SqL.of A.tak) (dat_strsH ws)) .nil)))))
theorem lay_rows:∀ {R:List (List RwN)},(∀ r ∈ R,∀ y ∈ r,PyData.strOk (txt y.1) = true∧∀ z,y.2 = some z→PyData.strOk (txt z) = true)→PyData.canLayAll0 (rowsD R) = true∧PyData.depthAll (rowsD R) ≤ 2
  | [],_=>⟨by simp [rowsD,PyData.canLayAll0],by simp [rowsD,PyData.depthAll]⟩
  | r :: R,ok=>by
    obtain ⟨a,b⟩:=lay_rows (R:=R) fun q hq=>ok q (List.mem_cons_of_mem _ hq)
    obtain ⟨c,d⟩:=lay_pairs (row_ok (ok r List.mem_cons_self))
    have e:rowsD (r :: R) = .list (pairD (r.map rowP)) :: rowsD R:=rfl
    rw [e]
    refine ⟨by simp [PyData.canLayAll0,PyData.canLay0,a,c],?_⟩
    simp only [PyData.depthAll,PyData.depth]
    omega
theorem shaped_st {L h:Nat} {R:List (List RwN)} {zs:List (List Nat × List Nat)} {ws:List (List Nat)} (ok:StOk R zs ws):SeqAt.shaped (stD L h R zs ws) = true:=by
  obtain ⟨a,b⟩:=lay_rows ok.rows
  obtain ⟨c,d⟩:=lay_pairs (thing_ok ok.things)
  have o2:∀ y ∈ ws.map txt,PyData.strOk y = true:=fun y hy=>by obtain ⟨z,hz,rfl⟩:=List.mem_map.mp hy; exact ok.taken z hz
  unfold SeqAt.shaped stD
  rw [Bool.and_eq_true]
  have cl:=canLay_strs _ o2
  have dl:=depth_strs (ws.map txt)
  generalize (ws.map txt).map PyData.str = D2 at cl dl ⊢
  refine ⟨by simp [PyData.canLay0,PyData.canLayAll0,a,c,cl],?_⟩
  rw [decide_eq_true_eq]
  simp only [PyData.depth,PyData.depthAll,dl]
  omega
theorem eq_states {K:PySem.W.Frag} {H:Hp} {p p1 p2 p3 q q1 q2 q3:Addr} {bs cs:List Addr} {ts us:List V} {L h:Nat} {R:List (List RwN)} {zs:List (List Nat × List Nat)} {ws:List (List Nat)} {Q:VK} (A:StA H p p1 p2 p3 bs ts L h R zs ws) (B:StA H q q1 q2 q3 cs us L h R zs ws) (ok:StOk R zs ws) (r:Q (.bl true) H):rEqD K (.ref p) (.ref q) H Q:=by
  refine ⟨_,_,A.dat ok,B.dat ok,shaped_st ok,shaped_st ok,?_⟩
  rw [SeqAt.eqv_refl _ (SeqAt.canLay_of_shaped (shaped_st ok))]
  exact r
theorem ne_states {K:PySem.W.Frag} {H:Hp} {p p1 p2 p3 q q1 q2 q3:Addr} {bs cs:List Addr} {ts us:List V} {L h:Nat} {R:List (List RwN)} {zs:List (List Nat × List Nat)} {ws:List (List Nat)} {Q:VK} (A:StA H p p1 p2 p3 bs ts L h R zs ws) (B:StA H q q1 q2 q3 cs us L h R zs ws) (ok:StOk R zs ws) (r:Q (.bl false) H):rNeD K (.ref p) (.ref q) H Q:=by
  refine ⟨_,_,A.dat ok,B.dat ok,shaped_st ok,shaped_st ok,?_⟩
  rw [SeqAt.eqv_refl _ (SeqAt.canLay_of_shaped (shaped_st ok))]
  exact r
theorem sorted_one {as bs:List (List Nat)} (p:as.Perm bs) (h1:as.Pairwise (· < ·)) (h2:bs.Pairwise (· < ·)):as = bs:=
  p.eq_of_pairwise (fun a b _ _ h g=>absurd (List.lt_trans h g) (List.lt_irrefl a)) h1 h2
theorem Told.one {kvs:List (List Nat × List Nat)} {ks:List (List Nat)} {zs zs':List (List Nat × List Nat)} {ws ws':List (List Nat)} (A:Told kvs ks zs ws) (B:Told kvs ks zs' ws'):zs = zs'∧ws = ws':=by
  refine ⟨?_,sorted_one (A.tperm.trans B.tperm.symm) A.tup B.tup⟩
  refine (A.perm.trans B.perm.symm).eq_of_pairwise (le:=fun a b=>a.1 < b.1) (fun a b _ _ h g=>absurd (List.lt_trans h g) (List.lt_irrefl a.1)) (List.pairwise_map.mp A.up) (List.pairwise_map.mp B.up)
theorem Shown.one {kvs:List (List Nat × List Nat)} {ks zs zs':List (List Nat)} (A:Shown kvs ks zs) (B:Shown kvs ks zs'):zs = zs':=by
  refine sorted_one ?_ A.up B.up
  have nd:∀ {l:List (List Nat)},l.Pairwise (· < ·)→l.Nodup:=fun h=>h.imp fun g z=>by subst z; exact List.lt_irrefl _ g
  exact (List.perm_ext_iff_of_nodup (nd A.up) (nd B.up)).mpr fun m=>by rw [A.mem,B.mem]
theorem Told.ok {L:Nat} {kvs:List (List Nat × List Nat)} {ks:List (List Nat)} {zs:List (List Nat × List Nat)} {ws:List (List Nat)} {k b:Nat} (A:Told kvs ks zs ws) (hL:L ≤ 26) (W:Knows L kvs ks k b):StOk [] zs ws:=by
  refine ⟨fun r hr=>(nomatch hr),fun z hz=>?_,fun w hw=>?_⟩
  · have:=W.mar z (A.perm.mem_iff.mp hz)
    exact ⟨strOk_mark hL this.1.ls,strOk_thing this.2.2⟩
  · exact strOk_mark hL (W.mark (W.sub w (A.tperm.mem_iff.mp hw))).1.ls
theorem lt_three (a b:List Nat):a < b ∨ a = b ∨ b < a:=by
  by_cases h:a < b
  · exact .inl h
  by_cases g:b < a
  · exact .inr (.inr g)
  · exact .inr (.inl (List.le_antisymm (List.not_lt.mp g) (List.not_lt.mp h)))
theorem nodup_up {l:List (List Nat)} (h:l.Pairwise (· < ·)):l.Nodup:=h.imp fun g z=>by subst z; exact List.lt_irrefl _ g
theorem Shown.len {L:Nat} {kvs:List (List Nat × List Nat)} {ks zs:List (List Nat)} {k b:Nat} (Z:Shown kvs ks zs) (W:Knows L kvs ks k b):zs.length + ks.length = kvs.length:=by
  have p:(zs ++ ks).Perm (kvs.map (·.1)):=(List.perm_ext_iff_of_nodup (List.nodup_append.mpr ⟨nodup_up Z.up,W.tnd,fun a ha b hb z=>by subst z; exact ((Z.mem a).mp ha).2 hb⟩) W.nd).mpr fun m=>by
    rw [List.mem_append,Z.mem]
    constructor
    · rintro (z | z)
      · exact z.1
      · exact W.sub m z
    · intro z
      by_cases y:m ∈ ks
      · exact .inr y
      · exact .inl ⟨z,y⟩
  have:=p.length_eq
  rw [List.length_append,List.length_map] at this
  exact this
theorem hmake_go {C c d:Addr} {t:TA} {σ:St} {H:Hp} {Q:VK} {L h j:Nat} (D:Hands L h j) (ht:∀ R:List V→Hp→Prop,R [.int L,.int h,.int j] H→t σ H R)
    (q:∀ H' x dx pr pt pk,Same H H'→Hnd C H' x dx pr pt pk L h j [] []→H' pr = some (.lst [])→H x = none→H dx = none→H pr = none→H pt = none→H pk = none→Q (.ref x) H'):tMake C (spHInit C c d) [] E0 t σ H Q:=by
  refine ht _ fun x dx hx hd ne=>?_
  have kp:Same H (upd (upd H dx (.own x)) x (.ins C dx [])):=((Same.refl H).new hd).new (by rw [upd_ne (Ne.symm ne)]; exact hx)
  have d1:=D.l2
  have d2:=D.l26
  have d3:=D.hj
  have d4:=D.hh
  have ok:LetOk (L:Int) (h:Int):=⟨by omega,by omega,by omega,by omega⟩
  refine ⟨x,dx,L,h,j,rfl,upd_same,by rw [upd_ne ne,upd_same],fun _ _ H' pr pt pk k S hr g1 g2 g3=>⟨rfl,?_⟩,fun z=>absurd ok z,fun _ z=>absurd ⟨by omega,by omega⟩ z⟩
  rw [Int.toNat_natCast,Int.toNat_natCast,Int.toNat_natCast] at S
  exact q H' x dx pr pt pk (same_keep kp k fun b hb=>by rw [List.mem_singleton.mp hb]; exact hx) S hr hx hd (kp.free1 g1) (kp.free1 g2) (kp.free1 g3)
theorem seq_cset {wi:TI} {fs:List Nat} {tt:TT} {te:TE} {i:Nat} {C:TS} {D:Ends} {σ:St} {H:Hp} (h:∀ c:V→Hp→Prop,(∀ x H1,C D (σ.set i (some x)) H1→c x H1)→tComp wi fs tt te σ H c):tSeq (tCompSet i wi fs tt te) C D σ H:=h _ fun _ _ z=>z
def spHNumber (C:Addr):Sp:=fun vs H Q _=>∃ (x dx pr pt pk:Addr) (L h j:Nat) (kvs:List (List Nat × List Nat)) (ks:List (List Nat)),vs = [.ref x]∧Hnd C H x dx pr pt pk L h j kvs ks∧Q (.int j) H
theorem read_hNumber {K:PySem.W.Frag} {C:Addr} (cl:HandC K C) {N:List Str} {vs:List V} {H:Hp} {Q:VK} {E:XK} (hN:N.length = 1) (h:spHNumber C vs H Q E):tRet (tFld K (tVar 0) "own_number") { nx:=fun _ H'=>Q .non H',rt:=Q } (L2.start N vs) H:=by
  obtain ⟨x,dx,pr,pt,pk,L,h,j,kvs,ks,rfl,S,q⟩:=h
  unfold L2.start
  rw [hN]
  and_intros
  exact hfn_go S cl rfl q
def spHAge (C:Addr):Sp:=fun vs H Q _=>∃ (x dx pr pt pk:Addr) (L h j:Nat) (kvs:List (List Nat × List Nat)) (ks:List (List Nat)) (xs:List V),vs = [.ref x]∧Hnd C H x dx pr pt pk L h j kvs ks∧H pr = some (.lst xs)∧Q (.int xs.length) H
theorem read_hAge {K:PySem.W.Frag} {C:Addr} (cl:HandC K C) {N:List Str} {vs:List V} {H:Hp} {Q:VK} {E:XK} (hN:N.length = 1) (h:spHAge C vs H Q E):tRet (tCB (rLenL K) (tCons (tFld K (tVar 0) "renewals") tNil)) { nx:=fun _ H'=>Q .non H',rt:=Q } (L2.start N vs) H:=by
  obtain ⟨x,dx,pr,pt,pk,L,h,j,kvs,ks,xs,rfl,S,hx,q⟩:=h
  unfold L2.start
  rw [hN]
  and_intros
  exact hfr_go S cl rfl (lenL_go (SqL.of hx) q)
def thingOf:List (List Nat × List Nat)→List Nat→List Nat
  | [],_=>[]
  | kv :: kvs,m=>if kv.1 = m then kv.2 else thingOf kvs m
theorem val_of (m:List Nat):∀ kvs:List (List Nat × List Nat),m ∈ kvs.map (·.1)→valV (thD kvs) (Key.inr (txt m)) = some (strV (thingOf kvs m))
  | [],h=>by simp at h
  | kv :: kvs,h=>by
    show valV ((Key.inr (txt kv.1),strV kv.2) :: thD kvs) _ = _
    unfold thingOf
    by_cases e:kv.1 = m
    · subst e; rw [valV_pos rfl,if_pos rfl]
    · rw [valV_neg (fun z=>e (txt_inj.mp (by injection z))),if_neg e]
      exact val_of m kvs (by
        rw [List.map_cons] at h
        rcases List.mem_cons.mp h with h | h
        · exact absurd h.symm e
        · exact h)
def spHThings (C:Addr):Sp:=fun vs H Q _=>∃ (x dx pr pt pk:Addr) (L h j:Nat) (kvs:List (List Nat × List Nat)) (ks:List (List Nat)),vs = [.ref x]∧Hnd C H x dx pr pt pk L h j kvs ks∧kvs.length < 64∧(kvs.map (·.1)).Nodup∧
  ∀ H' p (zs:List (List Nat)),Same H H'→H p = none→Shown kvs ks zs→H' p = some (.lst ((zs.map (thingOf kvs)).map strV))→Q (.ref p) H'
def rdHThings (K:PySem.W.Frag) (C:Addr):TS:=tRet (tComp (iList K (tMeth C "marks" (spHMarks C) [] E0 (tVar 0) tNil)) [0] tYes (tDGet (tFld K (tVar 1) "thing_of") (tVar 0)))
theorem read_hThings {K:PySem.W.Frag} {C:Addr} (cl:HandC K C) {N:List Str} {vs:List V} {H:Hp} {Q:VK} {E:XK} (hN:N.length = 1) (h:spHThings C vs H Q E):rdHThings K C { nx:=fun _ H'=>Q .non H',rt:=Q } (L2.start N vs) H:=by
  obtain ⟨x,dx,pr,pt,pk,L,h,j,kvs,ks,rfl,S,h64,hnd,q⟩:=h
  unfold rdHThings L2.start
  rw [hN]
  and_intros
  refine comp_by fun R0 hR0=>?_
  simp? [iList]
  refine hmeth_go S (fun R r=>⟨_,rfl,r⟩) rfl ⟨x,dx,pr,pt,pk,L,h,j,kvs,ks,rfl,S,h64,hnd,fun H1 l zs s1 hl up mem=>⟨l,rfl,⟨_,SqL.here⟩,?_⟩⟩
  rw [hR0]
  have Z:Shown kvs ks zs:=⟨up,mem⟩
  have s2:=s1.new hl (o:=.lst (zs.map strV))
  have S2:=S.same s2
  have hZ:(upd H1 l (.lst (zs.map strV))) l = some (.lst (zs.map strV)):=upd_same
  have zl:zs.length ≤ 10000:=by
    have:=nodup_len (nodup_up up) (fun m hm=>((mem m).mp hm).1)
    rw [List.length_map] at this
    omega
  generalize upd H1 l _ = H2 at s2 S2 hZ ⊢
  refine comp_lst (K:=K) (xs:=zs.map strV) (σ:=[some (.ref x)]) (fs:=[0]) (tt:=tYes) (te:=tDGet (tFld K (tVar 1) "thing_of") (tVar 0)) (Q:=Q) (fun i ys H'=>H' = H2∧ys = ((zs.take i).map (thingOf kvs)).map strV) ⟨rfl,rfl⟩ (fun i ys H' _ p=>by
    obtain ⟨e,e2⟩:=p
    rw [e,e2,List.length_map,List.length_map,List.length_take]
    exact ⟨SqL.of hZ,Nat.min_le_left _ _⟩) (by rw [List.length_map,sizeLine_eq]; omega) ?_ ?_
  · rintro i v ys H' hv ⟨rfl,rfl⟩ W hW
    rw [List.getElem?_map] at hv
    obtain ⟨m,hm,rfl⟩:=Option.map_eq_some_iff.mp hv
    simp? [strV,tDGet]
    have hmk:=((mem m).mp (List.mem_of_getElem? hm)).1
    refine hft_go S2 cl rfl ⟨pt,rfl,_,by rw [← val_of m kvs hmk]; exact DGet.k (k:=Key.inr (txt m)) S2.tho,hW _ _ ⟨rfl,?_⟩⟩
    rw [List.take_add_one,hm,List.map_append,List.map_append]
    rfl
  · rintro ys H' ⟨rfl,rfl⟩ p hp
    rw [List.length_map,List.take_length]
    exact q _ p zs (s2.new hp) (s2.free1 hp) Z upd_same
def knO (zs ks:List (List Nat)):List (List Nat × Bool):=zs.map fun m=>(m,!decide (m ∈ ks))
def rowsR (fr:List (List Nat)):Nat→List (List Nat × Bool)→List RwN
  | _,[]=>[]
  | g,(m,true) :: ks=>(m,some (fr.getD g [])) :: rowsR fr (g + 1) ks
  | g,(m,false) :: ks=>(m,none) :: rowsR fr g ks
theorem rowsR_eq (fr:List (List Nat)):∀ (g:Nat) (ks:List (List Nat × Bool)),rowsFrom fr g ks = (rowsR fr g ks).map rowP
  | _,[]=>rfl
  | g,(m,true) :: ks=>by rw [rowsFrom,rowsR,List.map_cons,rowsR_eq fr (g + 1) ks]; rfl
  | g,(m,false) :: ks=>by rw [rowsFrom,rowsR,List.map_cons,rowsR_eq fr g ks]; rfl
theorem rowsR_olds (fr:List (List Nat)):∀ (g:Nat) (ks:List (List Nat × Bool)),(rowsR fr g ks).map (·.1) = ks.map (·.1)
  | _,[]=>rfl
  | g,(m,true) :: ks=>by rw [rowsR,List.map_cons,List.map_cons,rowsR_olds fr (g + 1) ks]
  | g,(m,false) :: ks=>by rw [rowsR,List.map_cons,List.map_cons,rowsR_olds fr g ks]
def newK (kvs:List (List Nat × List Nat)) (R:List RwN):List (List Nat × List Nat):=R.filterMap fun r=>r.2.map fun n=>(n,thingOf kvs r.1)
theorem newK_keys (kvs:List (List Nat × List Nat)):∀ R:List RwN,(newK kvs R).map (·.1) = R.filterMap (·.2)
  | []=>rfl
  | (m,none) :: R=>by
    have:=newK_keys kvs R
    unfold newK at this ⊢
    rw [List.filterMap_cons_none rfl,List.filterMap_cons_none rfl]
    exact this
  | (m,some y) :: R=>by
    have:=newK_keys kvs R
    unfold newK at this ⊢
    simp only [List.filterMap_cons,Option.map_some,List.map_cons,List.cons.injEq,true_and]
    exact this
theorem rowsR_news (fr:List (List Nat)):∀ (g:Nat) (ks:List (List Nat × Bool)),g + stand ks = fr.length→(rowsR fr g ks).filterMap (·.2) = fr.drop g
  | g,[],h=>by
    rw [rowsR,List.filterMap_nil,List.drop_eq_nil_of_le]
    have:stand [] = 0:=rfl
    omega
  | g,(m,true) :: ks,h=>by
    rw [stand_cons,if_pos rfl] at h
    rw [rowsR]
    simp only [List.filterMap_cons]
    rw [rowsR_news fr (g + 1) ks (by omega)]
    have hg:g < fr.length:=by omega
    rw [List.drop_eq_getElem_cons hg,List.getD_eq_getElem?_getD,List.getElem?_eq_getElem hg]
    rfl
  | g,(m,false) :: ks,h=>by
    rw [stand_cons,if_neg (by decide)] at h
    rw [rowsR,List.filterMap_cons_none rfl,rowsR_news fr g ks (by omega)]
structure AllK (kvs:List (List Nat × List Nat)) (zs:List (List Nat)):Prop where
  up:zs.Pairwise (· < ·)
  perm:zs.Perm (kvs.map (·.1))
def renR (L:Nat) (zs ks:List (List Nat)) (n:Nat):List RwN:=rowsR (renL L (stand (knO zs ks)) n) 0 (knO zs ks)
theorem thing_mem:∀ (kvs:List (List Nat × List Nat)) {m:List Nat},m ∈ kvs.map (·.1)→(m,thingOf kvs m) ∈ kvs
  | [],m,h=>by simp at h
  | kv :: kvs,m,h=>by
    unfold thingOf
    by_cases e:kv.1 = m
    · rw [if_pos e,← e]; exact List.mem_cons_self
    · rw [if_neg e]
      rw [List.map_cons] at h
      rcases List.mem_cons.mp h with h | h
      · exact absurd h.symm e
      · exact List.mem_cons_of_mem _ (thing_mem kvs h)
theorem AllK.one {kvs:List (List Nat × List Nat)} {zs zs':List (List Nat)} (A:AllK kvs zs) (B:AllK kvs zs'):zs = zs':=sorted_one (A.perm.trans B.perm.symm) A.up B.up
theorem renR_old {L n:Nat} {zs ks:List (List Nat)} {r:RwN} (h:r ∈ renR L zs ks n):r.1 ∈ zs:=by
  have h1:r.1 ∈ (renR L zs ks n).map (·.1):=List.mem_map.mpr ⟨r,h,rfl⟩
  unfold renR at h1
  rw [rowsR_olds,knO,List.map_map] at h1
  obtain ⟨m,h2,h3⟩:=List.mem_map.mp h1
  rw [← h3]; exact h2
theorem renR_news {L n:Nat} {zs ks:List (List Nat)}:(renR L zs ks n).filterMap (·.2) = renL L (stand (knO zs ks)) n:=by
  unfold renR
  rw [rowsR_news _ _ _ (by rw [renL_len,Nat.zero_add]),List.drop_zero]
theorem IsRen.small {L m n:Nat} (hL:2 ≤ L) (R:IsRen L m n):n ≤ m:=by
  rcases Nat.eq_zero_or_pos n with z | z
  · omega
  · have h1:=R.less (n - 1) (by omega)
    have h2:2 ^ (n - 1) ≤ L ^ (n - 1):=Nat.pow_le_pow_left hL _
    have h3:=Nat.lt_two_pow_self (n:=n - 1)
    omega
theorem Knows.renew {L n:Nat} {kvs:List (List Nat × List Nat)} {ks zs:List (List Nat)} {k b:Nat} (W:Knows L kvs ks k b) (hL:2 ≤ L) (A:AllK kvs zs) (R:IsRen L (stand (knO zs ks)) n):Knows L (newK kvs (renR L zs ks n)) [] k k:=by
  have e:=newK_keys kvs (renR L zs ks n)
  rw [renR_news] at e
  have zl:zs.length ≤ k:=by rw [A.perm.length_eq,List.length_map]; exact W.few
  have sl:stand (knO zs ks) ≤ k:=by
    have:=stand_le (knO zs ks)
    rw [knO,List.length_map] at this
    rw [knO]
    omega
  have nl:=R.small hL
  refine ⟨by rw [e]; exact nodup_up (renL_lt (by omega) R),fun kv hkv=>?_,?_,fun _ h=>(nomatch h),List.nodup_nil⟩
  · have h1:kv.1 ∈ (newK kvs (renR L zs ks n)).map (·.1):=List.mem_map.mpr ⟨kv,hkv,rfl⟩
    rw [e] at h1
    obtain ⟨m1,m2⟩:=renL_mem (by omega) R kv.1 h1
    refine ⟨m1,by omega,?_⟩
    unfold newK at hkv
    obtain ⟨r,hr,e2⟩:=List.mem_filterMap.mp hkv
    obtain ⟨y,_,e3⟩:=Option.map_eq_some_iff.mp e2
    rw [← e3]
    have:=thing_mem kvs (m:=r.1) (A.perm.mem_iff.mp (renR_old hr))
    exact (W.mar _ this).2.2
  · have:=congrArg List.length e
    rw [List.length_map,renL_len] at this
    omega
structure Ren (H:Hp) (pr:Addr) (as:List Addr) (R:List (List RwN)):Prop where
  lst:H pr = some (.lst (as.map V.ref))
  row:RowsC H as R
  out:¬ pr ∈ as
theorem Ren.same {H H':Hp} {pr:Addr} {as:List Addr} {R:List (List RwN)} (A:Ren H pr as R) (s:Same H H'):Ren H' pr as R:=⟨s _ _ A.lst,A.row.same s,A.out⟩
theorem RowsC.keep {H H':Hp} {F:List Addr} (k:Keeps F H H') (ht:∀ t ∈ F,∀ ys,H t ≠ some (.tup ys)):∀ {as:List Addr} {R:List (List RwN)},(∀ a ∈ as,a ∉ F)→RowsC H as R→RowsC H' as R
  | [],[],_,_=>trivial
  | [],_ :: _,_,h=>h.elim
  | _ :: _,[],_,h=>h.elim
  | a :: _,_ :: _,n,⟨⟨xs,e,p⟩,r⟩=>⟨⟨xs,k _ _ e (n a List.mem_cons_self),p.keep fun t ys e=>k t _ e fun z=>ht t z ys e⟩,RowsC.keep k ht (fun b hb=>n b (List.mem_cons_of_mem _ hb)) r⟩
def spHRenew (C ch:Addr):Sp:=fun vs H Q E=>∃ (x dx pr pt pk:Addr) (L h j:Nat) (kvs:List (List Nat × List Nat)) (ks:List (List Nat)) (k b:Nat) (as:List Addr) (R:List (List RwN)),vs = [.ref x]∧Hnd C H x dx pr pt pk L h j kvs ks∧Hands L h j∧Knows L kvs ks k b∧k ≤ 62∧Ren H pr as R∧R.length ≤ 1000∧
  (j ≠ 0→E (.ref ch) none H)∧
  (j = 0→∀ H' zs n pt' pk' r ys q,AllK kvs zs→IsRen L (stand (knO zs ks)) n→Keeps [x,pr] H H'→Hnd C H' x dx pr pt' pk' L h j (newK kvs (renR L zs ks n)) []→Ren H' pr (as ++ [r]) (R ++ [renR L zs ks n])→
    H' q = some (.lst ys)→Prs H' ys ((renR L zs ks n).map rowP)→H pt' = none→H pk' = none→H r = none→H q = none→q ≠ r→Q (.ref q) H')
def rdHRenew (K:PySem.W.Frag) (ch:Addr) (m:List Nat) (E:XK):TS:=
    tSeq (tIfS (tTest (tOp rNe (tFld K (tVar 0) "own_number") (tC (.int 0)))) (tRaise (.ref ch) E (tCons (tC (.str (txt m))) tNil)) (tNext))
      (tSeq (tCompSet 1 (iList K (tCB rSortedD (tCons (tFld K (tVar 0) "thing_of") tNil))) [0] tYes (tTup (tCons (tVar 0) (tCons (tOp (rInD true) (tVar 0) (tFld K (tVar 1) "taken")) tNil))))
      (tSeq (tAsg (tCall (spRows K) [] E0 (tCons (tFld K (tVar 0) "letters") (tCons (tVar 1) tNil))) (gName 2))
      (tSeq (sFld K (tVar 0) (tCB rDictOf (tCons (tComp2 K (iList K (tVar 2)) [0] (tB (tNotN (tVar 1))) (tTup (tCons (tVar 1) (tCons (tDGet (tFld K (tVar 2) "thing_of") (tVar 0)) tNil)))) tNil)) "thing_of")
      (tSeq (sFld K (tVar 0) tDNewK "taken")
      (tSeq (tDrop (tBM K "list" rAppend (tFld K (tVar 0) "renewals") (tCons (tVar 2) tNil)))
      (tRet (tCB (rListOf K) (tCons (tVar 2) tNil))))))))
def KnInv (H:Hp) (zs ks:List (List Nat)):Nat→List V→Hp→Prop:=fun i ys H'=>Same H H'∧Prs H' ys ((knO (zs.take i) ks).map kP)∧ys.length = i
def NkInv (H:Hp) (kvs:List (List Nat × List Nat)) (R:List RwN):Nat→List V→Hp→Prop:=fun i ys H'=>Same H H'∧Prs H' ys ((newK kvs (R.take i)).map stP)∧ys.length ≤ i
theorem mergeK_new:∀ (ps qs:List (Key × V)),((qs ++ ps).map (·.1)).Nodup→mergeK qs ps = qs ++ ps
  | [],qs,_=>by rw [List.append_nil]; rfl
  | (k,v) :: ps,qs,h=>by
    have h1:valV qs k = none:=by
      cases w:valV qs k with
      | none=>rfl
      | some u=>
        exfalso
        have hk:k ∈ qs.map (·.1):=by
          refine Classical.byContradiction fun nk=>?_
          have:valV qs k = none:=by
            clear h w
            induction qs with
            | nil=>exact valV_nil
            | cons q qs ih=>
              rw [valV_neg (fun z=>nk (by rw [← z]; exact List.mem_cons_self))]
              exact ih fun z=>nk (List.mem_cons_of_mem _ z)
          rw [this] at w; cases w
        rw [List.map_append,List.nodup_append] at h
        exact h.2.2 k hk k (by simp) rfl
    show mergeK (putK qs k v) ps = _
    rw [putK_new _ h1,mergeK_new ps (qs ++ [(k,v)]) (by rw [List.append_assoc]; exact h),List.append_assoc]
    rfl
theorem Prs.prk {H:Hp} {ys:List V} {zs:List (List Nat × List Nat)} (p:Prs H ys (zs.map stP)):PrK H ys (thD zs):=by
  refine ⟨by rw [p.len,thD,List.length_map,List.length_map],fun i k v e=>?_⟩
  rw [thD,List.getElem?_map] at e
  obtain ⟨z,e1,e2⟩:=Option.map_eq_some_iff.mp e
  cases e2
  obtain ⟨y,hy⟩:=some_at (l:=ys) (i:=i) (by rw [p.len,List.length_map]; exact (List.getElem?_eq_some_iff.mp e1).1)
  obtain ⟨q,t,a,rfl,c⟩:=p.get hy
  rw [List.getElem?_map,e1] at a
  cases a
  exact ⟨t,hy,c⟩
theorem read_hRenew {K:PySem.W.Frag} {C ch:Addr} {mm:List Nat} (cl:HandC K C) {N:List Str} {vs:List V} {H:Hp} {Q:VK} {E:XK} (hN:N.length = 3) (h:spHRenew C ch vs H Q E):rdHRenew K ch mm E { nx:=fun _ H'=>Q .non H',rt:=Q } (L2.start N vs) H:=by
  obtain ⟨x,dx,pr,pt,pk,L,h,j,kvs,ks,k,b,as,R,rfl,S,D,W,hk,A,hRl,qx,q⟩:=h
  unfold rdHRenew L2.start
  rw [hN]
  refine seq_any fun c hc=>?_
  and_intros
  refine hfn_go S cl rfl ⟨rfl,?_⟩
  by_cases hj:j = 0
  case neg=>
    rw [if_pos (fun z=>hj (by have:=V.int.inj z; omega))]
    exact ⟨by decide,qx hj⟩
  rw [if_neg (fun z=>z (by rw [hj]; rfl))]
  have q:=q hj
  refine hc _ _ ?_
  clear hc c
  have few:=W.few
  refine seq_cset fun c hc=>?_
  refine comp_by fun R0 hR0=>?_
  simp? [iList]
  refine hft_go S cl rfl ⟨pt,kvs.map fun kv=>(kv.1,strV kv.2),rfl,by rw [← thD_eq]; exact S.tho,by rw [List.length_map]; omega,fun l zs hl hpm hle=>⟨l,rfl,⟨_,SqL.here⟩,?_⟩⟩
  rw [hR0]
  have hkk:(kvs.map fun kv=>(kv.1,strV kv.2)).map (·.1) = kvs.map (·.1):=by rw [List.map_map]; rfl
  rw [hkk] at hpm
  have zlt:=lt_of_sorted hle (hpm.nodup_iff.mpr W.nd)
  have AK:AllK kvs zs:=⟨zlt,hpm⟩
  have s1:=Same.up H hl (o:=.lst (zs.map strV))
  have hZ:(upd H l (.lst (zs.map strV))) l = some (.lst (zs.map strV)):=upd_same
  generalize upd H l _ = H1 at s1 hZ ⊢
  have zl:zs.length ≤ 62:=by rw [hpm.length_eq,List.length_map]; omega
  refine comp_lst (K:=K) (xs:=zs.map strV) (σ:=[some (.ref x),none,none]) (fs:=[0]) (tt:=tYes) (te:=tTup (tCons (tVar 0) (tCons (tOp (rInD true) (tVar 0) (tFld K (tVar 1) "taken")) tNil))) (Q:=c) (KnInv H1 zs ks) ⟨Same.refl _,trivial,rfl⟩ (fun i ys H' _ p=>by
    exact ⟨SqL.of (p.1 _ _ hZ),by rw [p.2.2]; exact Nat.le_refl _⟩) (by rw [List.length_map,sizeLine_eq]; omega) ?_ ?_
  · rintro i v ys H' hv ⟨s',p',rfl⟩ W' hW
    rw [List.getElem?_map] at hv
    obtain ⟨m,hm,rfl⟩:=Option.map_eq_some_iff.mp hv
    have S':=(S.same s1).same s'
    simp? [strV]
    refine hfk_go S' cl rfl ⟨pk,_,rfl,DGet.k (k:=Key.inr (txt m)) S'.tak,by decide,fun t ht=>?_⟩
    rw [val_tk,show (decide (m ∈ ks) != true) = !decide (m ∈ ks) by cases decide (m ∈ ks) <;> rfl]
    have s2:=Same.up H' ht (o:=.tup [.str (txt m),.bl (!decide (m ∈ ks))])
    refine hW _ _ ⟨s'.trans s2,?_,by rw [List.length_append]; rfl⟩
    have e:(knO (zs.take (ys.length + 1)) ks).map kP = (knO (zs.take ys.length) ks).map kP ++ [(strV m,.bl (!decide (m ∈ ks)))]:=by
      rw [List.take_add_one,hm,knO,List.map_append,List.map_append]
      rfl
    rw [e]
    exact (p'.same s2).app ⟨⟨t,rfl,upd_same⟩,trivial⟩
  rintro ys H2 ⟨s2,p2,hyl⟩ p1 hp1
  rw [List.length_map,List.take_length] at p2
  refine hc _ _ ?_
  clear hc
  have s2:=s1.trans s2
  have s3:=s2.new hp1 (o:=.lst ys)
  have p3:=p2.same (Same.up H2 hp1 (o:=.lst ys))
  have e3:(upd H2 p1 (.lst ys)) p1 = some (.lst ys):=upd_same
  generalize upd H2 p1 _ = H3 at s3 p3 e3 ⊢
  have S3:=S.same s3
  refine seq_set fun c hc=>?_
  and_intros
  refine hfl_go S3 cl rfl ⟨L,p1,knO zs ks,rfl,D.l2,D.l26,by rw [knO,List.length_map]; omega,⟨ys,SqL.of e3,p3⟩,fun H4 r us n IR s4 hr hr4 p4=>hc _ _ ?_⟩
  clear hc c
  rw [rowsR_eq] at p4
  have p4:Prs H4 us ((renR L zs ks n).map rowP):=p4
  have fr:H r = none:=s3.free1 hr
  have s4:=s3.trans s4
  have S4:=S.same s4
  have hul:=p4.len
  rw [List.length_map] at hul
  have rl:(renR L zs ks n).length ≤ 62:=by
    have:=congrArg List.length (rowsR_olds (renL L (stand (knO zs ks)) n) 0 (knO zs ks))
    rw [List.length_map,List.length_map,knO,List.length_map] at this
    unfold renR
    rw [knO,this]
    omega
  have q:=fun H' pt' pk' ys q'=>q H' zs n pt' pk' r ys q' AK IR
  have olds:∀ y ∈ renR L zs ks n,y.1 ∈ kvs.map (·.1):=fun y hy=>hpm.mem_iff.mp (renR_old hy)
  have nd':=(W.renew D.l2 AK IR).nd
  generalize renR L zs ks n = rw at p4 hul rl q olds nd'
  simp only [List.set_cons_zero,List.set_cons_succ]
  -- the new things
  refine seq_any fun c hc=>?_
  unfold sFld
  and_intros
  refine comp2_l (a:=r) (xs:=us) (fun Q h=>⟨_,rfl,h⟩) (SqL.of hr4) (NkInv H4 kvs rw) ⟨Same.refl _,trivial,Nat.zero_le _⟩ (fun i ys H' _ p=>⟨SqL.of (p.1 _ _ hr4),p.2.2⟩) (by rw [hul,sizeLine_eq]; omega) ?_ ?_
  · rintro i v ys H' hv ⟨s',p',hle'⟩
    obtain ⟨pp,t,e1,rfl,ht⟩:=(p4.same s').get hv
    rw [List.getElem?_map] at e1
    obtain ⟨y,ey,rfl⟩:=Option.map_eq_some_iff.mp e1
    refine ⟨t,strV y.1,oV y.2,rfl,SqT.of ht,fun W' hW=>?_⟩
    have S':=S4.same s'
    have etk:rw.take (i + 1) = rw.take i ++ [y]:=by rw [List.take_add_one,ey]; rfl
    have hmk:=olds y (List.mem_of_getElem? ey)
    obtain ⟨o,w⟩:=y
    cases w with
    | none=>
      simp? [strV,oV]
      refine hW _ _ ⟨s',?_,by omega⟩
      rw [etk,newK,List.filterMap_append]
      simpa [newK] using p'
    | some w=>
      simp? [strV,oV,tDGet]
      refine hft_go S' cl rfl ⟨pt,rfl,_,by rw [← val_of o kvs hmk]; exact DGet.k (k:=Key.inr (txt o)) S'.tho,by decide,fun t2 ht2=>?_⟩
      have s2:=Same.up H' ht2 (o:=.tup [.str (txt w),strV (thingOf kvs o)])
      refine hW _ _ ⟨s'.trans s2,?_,by rw [List.length_append]; simp only [List.length_cons,List.length_nil]; omega⟩
      have e:(newK kvs (rw.take (i + 1))).map stP = (newK kvs (rw.take i)).map stP ++ [(strV w,strV (thingOf kvs o))]:=by
        rw [etk,newK,List.filterMap_append,List.map_append]
        rfl
      rw [e]
      exact (p'.same s2).app ⟨⟨t2,rfl,upd_same⟩,trivial⟩
  rintro ys5 H5 ⟨s5,p5,_⟩ l5 hl5
  rw [hul,List.take_length] at p5
  have s45:=s4.trans s5
  have s6:=s45.new hl5 (o:=.lst ys5)
  have p6:=p5.same (Same.up H5 hl5 (o:=.lst ys5))
  have e6:(upd H5 l5 (.lst ys5)) l5 = some (.lst ys5):=upd_same
  have r6:=(Same.up H5 hl5 (o:=.lst ys5)) _ _ (s5 _ _ hr4)
  have q6:=(p4.same s5).same (Same.up H5 hl5 (o:=.lst ys5))
  generalize upd H5 l5 _ = H6 at s6 p6 e6 r6 q6 ⊢
  refine ⟨l5,ys5,thD (newK kvs rw),rfl,e6,p6.prk,fun pt' hpt'=>?_⟩
  have em:mergeK [] (thD (newK kvs rw)) = thD (newK kvs rw):=by
    rw [mergeK_new _ _ (by
      rw [List.nil_append,thD,List.map_map]
      have:=List.pairwise_map.mpr (List.Pairwise.imp (S:=fun a b=>(Key.inr (txt a):Key) ≠ Key.inr (txt b)) (fun n e=>n (txt_inj.mp (by injection e))) nd')
      rw [List.map_map] at this
      exact this)]
    rfl
  rw [em]
  have S6:=S.same s6
  have ft:H pt' = none:=s6.free1 hpt'
  have nx:x ≠ pt':=fun z=>by subst z; rw [S6.ins] at hpt'; cases hpt'
  have ndx:dx ≠ pt':=fun z=>by subst z; rw [S6.own] at hpt'; cases hpt'
  have npr:pr ≠ pt':=fun z=>by subst z; rw [s6 _ _ A.lst] at hpt'; cases hpt'
  have nr:r ≠ pt':=fun z=>by subst z; rw [r6] at hpt'; cases hpt'
  refine ⟨C,dx,handF L h j pr pt pk,by rw [upd_ne nx]; exact S6.ins,cl.cls,cl.nt,by simp [handF],hc _ _ ?_⟩
  clear hc c
  have s7:=s6.new hpt' (o:=.dK (thD (newK kvs rw)))
  have k7:Keeps [x,pr] H (upd (upd H6 pt' (.dK (thD (newK kvs rw)))) x (.ins C dx (putF "thing_of" (.ref pt') (handF L h j pr pt pk)))):=(s7.keeps _).upd (.inl List.mem_cons_self)
  have x7:(upd (upd H6 pt' (.dK (thD (newK kvs rw)))) x (.ins C dx (putF "thing_of" (.ref pt') (handF L h j pr pt pk)))) x = some (.ins C dx (handF L h j pr pt' pk)):=upd_same
  have tt:∀ {z:Addr} {o:HO},z ≠ x→H6 z = some o→(upd (upd H6 pt' (.dK (thD (newK kvs rw)))) x (.ins C dx (putF "thing_of" (.ref pt') (handF L h j pr pt pk)))) z = some o:=fun {z o} n e=>by
    rw [upd_ne n,upd_ne (fun w=>by subst w; rw [hpt'] at e; cases e)]; exact e
  have hdx:dx ≠ x:=fun z=>by subst z; have:=S.ins.symm.trans S.own; cases this
  have hpx:pr ≠ x:=fun z=>by subst z; have:=S.ins.symm.trans A.lst; cases this
  have hrx:r ≠ x:=fun z=>by subst z; have:=S6.ins.symm.trans r6; cases this
  have d7:=tt hdx S6.own
  have l7:=tt hpx (s6 _ _ A.lst)
  have r7:=tt hrx r6
  have t7:(upd (upd H6 pt' (.dK (thD (newK kvs rw)))) x (.ins C dx (putF "thing_of" (.ref pt') (handF L h j pr pt pk)))) pt' = some (.dK (thD (newK kvs rw))):=by rw [upd_ne (Ne.symm nx),upd_same]
  have q7:Prs (upd (upd H6 pt' (.dK (thD (newK kvs rw)))) x (.ins C dx (putF "thing_of" (.ref pt') (handF L h j pr pt pk)))) us (rw.map rowP):=q6.keep fun t ys e=>tt (fun z=>by subst z; have:=S6.ins.symm.trans e; cases this) e
  generalize upd (upd H6 pt' _) x _ = H7 at k7 x7 d7 l7 r7 t7 q7 ⊢
  clear tt
  -- taken
  refine seq_any fun c hc=>?_
  unfold sFld tDNewK
  and_intros
  refine fun pk' hpk'=>⟨C,dx,handF L h j pr pt' pk,?_⟩
  have nx:x ≠ pk':=fun z=>by subst z; rw [x7] at hpk'; cases hpk'
  have nt:pt' ≠ pk':=fun z=>by subst z; rw [t7] at hpk'; cases hpk'
  have fk:H pk' = none:=by
    cases w:H pk' with
    | none=>rfl
    | some o=>
      have:=k7 pk' o w (fun z=>by
        rcases List.mem_cons.mp z with z | z
        · exact nx z.symm
        · rw [List.mem_singleton.mp z,l7] at hpk'; cases hpk')
      rw [this] at hpk'; cases hpk'
  refine ⟨by rw [upd_ne nx]; exact x7,cl.cls,cl.nk,by simp [handF],hc _ _ ?_⟩
  clear hc c
  have k8:Keeps [x,pr] H (upd (upd H7 pk' (.dK [])) x (.ins C dx (putF "taken" (.ref pk') (handF L h j pr pt' pk)))):=(k7.upd (.inr hpk')).upd (.inl List.mem_cons_self)
  have x8:(upd (upd H7 pk' (.dK [])) x (.ins C dx (putF "taken" (.ref pk') (handF L h j pr pt' pk)))) x = some (.ins C dx (handF L h j pr pt' pk')):=upd_same
  have tt:∀ {z:Addr} {o:HO},z ≠ x→H7 z = some o→(upd (upd H7 pk' (.dK [])) x (.ins C dx (putF "taken" (.ref pk') (handF L h j pr pt' pk)))) z = some o:=fun {z o} n e=>by
    rw [upd_ne n,upd_ne (fun w=>by subst w; rw [hpk'] at e; cases e)]; exact e
  have d8:=tt hdx d7
  have l8:=tt hpx l7
  have r8:=tt hrx r7
  have t8:=tt (fun z=>by subst z; have:=x7.symm.trans t7; cases this) t7
  have u8:(upd (upd H7 pk' (.dK [])) x (.ins C dx (putF "taken" (.ref pk') (handF L h j pr pt' pk)))) pk' = some (.dK (tkD [])):=by rw [upd_ne (Ne.symm nx),upd_same]; rfl
  have q8:Prs (upd (upd H7 pk' (.dK [])) x (.ins C dx (putF "taken" (.ref pk') (handF L h j pr pt' pk)))) us (rw.map rowP):=q7.keep fun t ys e=>tt (fun z=>by subst z; have:=x7.symm.trans e; cases this) e
  generalize upd (upd H7 pk' _) x _ = H8 at k8 x8 d8 l8 r8 t8 u8 q8 ⊢
  clear tt
  have S8:Hnd C H8 x dx pr pt' pk' L h j (newK kvs rw) []:=⟨x8,d8,t8,u8,nt⟩
  -- the renewals
  have al:=A.row.len
  refine seq_any fun c hc=>?_
  and_intros
  refine hfr_go S8 cl rfl ⟨.inl ⟨rfl,_,SqL.of l8⟩,append_go l8 (by rw [List.length_map]; omega) (hc _ _ ?_)⟩
  clear hc c
  have npx:r ≠ pr:=fun z=>by subst z; rw [A.lst] at fr; cases fr
  have k9:Keeps [x,pr] H (upd H8 pr (.lst (as.map V.ref ++ [.ref r]))):=k8.upd (.inl (List.mem_cons_of_mem _ List.mem_cons_self))
  have nk:∀ {z:Addr} {o:HO},z ≠ pr→H8 z = some o→(upd H8 pr (.lst (as.map V.ref ++ [.ref r]))) z = some o:=fun {z o} n e=>by rw [upd_ne n]; exact e
  have S9:Hnd C (upd H8 pr (.lst (as.map V.ref ++ [.ref r]))) x dx pr pt' pk' L h j (newK kvs rw) []:=⟨nk (Ne.symm hpx) x8,nk (fun z=>by subst z; have:=d8.symm.trans l8; cases this) d8,nk (fun z=>by subst z; have:=t8.symm.trans l8; cases this) t8,nk (fun z=>by subst z; have:=u8.symm.trans l8; cases this) u8,nt⟩
  have l9:(upd H8 pr (.lst (as.map V.ref ++ [.ref r]))) pr = some (.lst ((as ++ [r]).map V.ref)):=by rw [upd_same,List.map_append]; rfl
  have r9:=nk npx r8
  have q9:Prs (upd H8 pr (.lst (as.map V.ref ++ [.ref r]))) us (rw.map rowP):=q8.keep fun t ys e=>nk (fun z=>by subst z; have:=l8.symm.trans e; cases this) e
  generalize upd H8 pr _ = H9 at k9 S9 l9 r9 q9 ⊢
  have rows9:RowsC H9 as R:=A.row.keep k9 (fun t ht ys e=>by
    rcases List.mem_cons.mp ht with z | z
    · rw [z,S.ins] at e; cases e
    · rw [List.mem_singleton.mp z,A.lst] at e; cases e) fun a ha z=>by
    rcases List.mem_cons.mp z with z | z
    · obtain ⟨i,hi⟩:=List.getElem?_of_mem ha
      obtain ⟨_,_,_,w,_⟩:=A.row.get hi
      rw [z,S.ins] at w; cases w
    · exact A.out (by rw [← List.mem_singleton.mp z]; exact ha)
  and_intros
  refine ⟨r,us,rfl,.inl (SqL.of r9),fun o ho=>?_⟩
  have s10:=Same.up H9 ho (o:=.lst us)
  have no:o ≠ r:=fun z=>by subst z; rw [r9] at ho; cases ho
  have fo:H o = none:=by
    cases w:H o with
    | none=>rfl
    | some u=>
      have:=k9 o u w (fun z=>by
        rcases List.mem_cons.mp z with z | z
        · rw [z,S9.ins] at ho; cases ho
        · rw [List.mem_singleton.mp z,l9] at ho; cases ho)
      rw [this] at ho; cases ho
  refine q _ pt' pk' us o (k9.upd (.inr ho)) (S9.same s10) ⟨s10 _ _ l9,(rows9.app (show RowsC H9 [r] [rw] from ⟨⟨us,r9,q9⟩,trivial⟩)).same s10,fun z=>?_⟩ upd_same (q9.same s10) ft fk fr fo no
  rcases List.mem_append.mp z with z | z
  · exact A.out z
  · exact npx (List.mem_singleton.mp z).symm
def rdLWhole2 (K:PySem.W.Frag):TS:=
    tSeq (tAsg (tC (.int 0)) (gName 3))
      (tSeq (tFor (iRng1 (tCons (tVar 2) tNil)) (gName 4) (tSeq (tAsg (tOp rMulI (tVar 3) (tVar 0)) (gName 3))
      (tIfS (tTest (tOp rLtI (tVar 4) (tCB rLenS (tCons (tVar 1) tNil)))) (tAsg (tOp rAddI (tVar 3) (tBM K "str" rIndex (tC (.str (txt ABC))) (tCons (tOp rIxStr (tVar 1) (tVar 4)) tNil))) (gName 3)) (tNext))))
      (tRet (tVar 3)))
theorem read_lwhole2 {K:PySem.W.Frag} {N:List Str} {vs:List V} {H:Hp} {Q:VK} {E:XK} (hN:N.length = 5) (h:spLWhole vs H Q E):rdLWhole2 K { nx:=fun _ H'=>Q .non H',rt:=Q } (L2.start N vs) H:=by
  obtain ⟨L,l,n,rfl,hL,hl,hz,hn,q⟩:=h
  unfold rdLWhole2 L2.start
  rw [hN]
  and_intros
  refine for_r1 (j:=n) (fun Q h=>⟨_,rfl,h⟩) (by omega) (by omega) (fun i σ H'=>H' = H∧∃ v4,σ = [some (.int L),some (.str (txt l)),some (.int n),some (.int (val L l i:Nat)),v4]) ⟨rfl,_,by rw [val_zero]; rfl⟩ ?_ ?_
  · rintro i σ H1 hi ⟨rfl,v4,rfl⟩
    and_intros
    refine ⟨mulB_r (by omega) (by omega),lenS_go hz ⟨_,rfl,?_⟩⟩
    by_cases hi2:i < l.length
    · rw [if_pos (by omega)]
      have hc:=hl l[i] (List.getElem_mem hi2)
      refine ⟨rfl,ixS_go hz (by omega) (by simp [hi2]) (idxABC_go hc.1 hc.2 ⟨_,rfl,rfl,some (.int i),?_⟩)⟩
      rw [val_succ,Int.natCast_add,Int.natCast_mul]
      simp [fig,hi2]
    · rw [if_neg (by omega)]
      refine ⟨rfl,some (.int i),?_⟩
      rw [val_succ,Int.natCast_add,Int.natCast_mul]
      simp [fig,List.getElem?_eq_none (Nat.le_of_not_lt hi2)]
  · rintro σ H1 ⟨rfl,v4,rfl⟩
    and_intros
    rw [Int.toNat_natCast]
    exact q
def numsH (L h j:Nat) (lo hi:Option (List Nat)) (n:Nat):List Nat:=(List.range' (loN L lo n) (hiN L hi n - loN L lo n)).filter (ow L (endsL L h j))
def spLSome:Sp:=fun vs H Q _=>∃ (L h j:Nat) (lo hi:Option (List Nat)) (n:Nat),vs = [.int L,.int h,.int j,oV lo,oV hi,.int n]∧Hands L h j∧MarksOk L lo hi∧n ≤ 2000∧hiN L hi n ≤ loN L lo n + 90000∧∀ H' p,Same H H'→H p = none→H' p = some (.lst ((numsH L h j lo hi n).map fun w=>.int (w:Nat)))→Q (.ref p) H'
def rdLSome (K:PySem.W.Frag):TS:=
    tSeq (tAsg (tC (.int 1)) (gName 6))
      (tSeq (tFor (iRng1 (tCons (tVar 5) tNil)) (gName 7) (tAsg (tOp rMulI (tVar 6) (tVar 0)) (gName 6)))
      (tSeq (tAsg (tOp rSubI (tVar 6) (tC (.int 1))) (gName 6))
      (tSeq (tAsg (tC (.int 1)) (gName 8))
      (tSeq (tIfS (tB (tNotN (tVar 3))) (tAsg (tOp rAddI (tCall spLWhole [] E0 (tCons (tVar 0) (tCons (tVar 3) (tCons (tVar 5) tNil)))) (tC (.int 1))) (gName 8)) (tNext))
      (tSeq (tIfS (tB (tNotN (tVar 4))) (tAsg (tOp rSubI (tCall spLWhole [] E0 (tCons (tVar 0) (tCons (tVar 4) (tCons (tVar 5) tNil)))) (tCB rInt1 (tCons (tOp rLeI (tCB rLenS (tCons (tVar 4) tNil)) (tVar 5)) tNil))) (gName 6)) (tNext))
      (tSeq (tAsg (tLst tNil) (gName 9))
      (tSeq (tFor (iRng2B (tCons (tVar 8) (tCons (tOp rAddI (tVar 6) (tC (.int 1))) tNil))) (gName 10) (tIfS (tAnd (tTest (tOp rGtI (tOp rModI (tVar 10) (tVar 0)) (tC (.int 0)))) (tTest (tOp rEq (tOp rModI (tOp rSubI (tOp rModI (tVar 10) (tVar 0)) (tC (.int 1))) (tVar 1)) (tVar 2)))) (tDrop (tBM K "list" rAppend (tVar 9) (tCons (tVar 10) tNil))) (tNext)))
      (tRet (tVar 9)))))))))
def SomeInv (L h j:Nat) (lo hi:Option (List Nat)) (n:Nat) (p:Addr) (v6 v7:Option V) (H:Hp):Nat→St→Hp→Prop:=fun i σ H'=>∃ v10,Keeps [p] H H'∧H' p = some (.lst (((List.range' (loN L lo n) i).filter (ow L (endsL L h j))).map fun w=>.int (w:Nat)))∧
  σ = [some (.int L),some (.int h),some (.int j),some (oV lo),some (oV hi),some (.int n),v6,v7,some (.int (loN L lo n:Nat)),some (.ref p),v10]
theorem read_lsome {K:PySem.W.Frag} {N:List Str} {vs:List V} {H:Hp} {Q:VK} {E:XK} (hN:N.length = 11) (h:spLSome vs H Q E):rdLSome K { nx:=fun _ H'=>Q .non H',rt:=Q } (L2.start N vs) H:=by
  obtain ⟨L,h,j,lo,hi,n,rfl,D,M,hn,hw,q⟩:=h
  have hL26:=D.l26
  have hL2:=D.l2
  have hlen:=M.lens
  unfold rdLSome L2.start
  rw [hN]
  refine seq_set fun c hc=>?_
  and_intros
  refine hc _ _ ?_
  clear hc c
  simp only [List.set_cons_zero,List.set_cons_succ,List.replicate_succ,List.replicate_zero,List.map_cons,List.map_nil,List.cons_append,List.nil_append]
  refine seq_any fun c hc=>?_
  refine for_r1 (j:=n) (fun Q h=>by and_intros; exact h) (by omega) (by omega) (fun i σ H'=>H' = H∧∃ v7,σ = [some (.int L),some (.int h),some (.int j),some (oV lo),some (oV hi),some (.int n),some (.int (L ^ i:Nat)),v7,none,none,none]) ⟨rfl,_,rfl⟩ ?_ ?_
  · rintro i σ H1 hi ⟨rfl,v7,rfl⟩
    and_intros
    exact ⟨mulB_r (by omega) (by omega),some (.int i),by rw [Nat.pow_succ,Int.natCast_mul]⟩
  rintro σ H1 ⟨rfl,v7,rfl⟩
  rw [Int.toNat_natCast]
  refine hc _ _ ?_
  clear hc c
  refine seq_set fun c hc=>?_
  and_intros
  refine hc _ _ ?_
  clear hc c
  refine seq_set fun c hc=>?_
  and_intros
  refine hc _ _ ?_
  clear hc c
  simp only [List.set_cons_zero,List.set_cons_succ]
  refine seq_any fun c hc=>?_
  suffices main:c [some (.int L),some (.int h),some (.int j),some (oV lo),some (oV hi),some (.int n),some (.int ((L ^ n:Nat) - 1)),v7,some (.int (loN L lo n:Nat)),none,none] H1 by
    cases lo with
    | none=>
      simp? [oV]
      exact main
    | some l=>
      obtain ⟨ml,zl⟩:=M.mlo l rfl
      simp? [oV]
      exact ⟨L,l,n,rfl,hL26,ml.ls.mono hL26,by omega,by omega,_,rfl,main⟩
  refine hc _ _ ?_
  clear hc c
  refine seq_any fun c hc=>?_
  suffices main:c [some (.int L),some (.int h),some (.int j),some (oV lo),some (oV hi),some (.int n),some (.int ((hiN L hi n:Nat) - 1)),v7,some (.int (loN L lo n:Nat)),none,none] H1 by
    cases hi with
    | none=>
      simp? [oV]
      exact main
    | some u=>
      obtain ⟨mu,zu⟩:=M.mhi u rfl
      simp? [oV]
      refine ⟨L,u,n,rfl,hL26,mu.ls.mono hL26,by omega,by omega,?_⟩
      refine lenS_go (by omega) ⟨_,rfl,?_⟩
      refine .inr ⟨_,rfl,⟨_,rfl,?_⟩⟩
      have ea:hiN L (some u) n = if n < u.length then val L u n + 1 else val L u n:=rfl
      have e2:((hiN L (some u) n:Nat):Int) - 1 = ((val L u n:Nat):Int) - (if decide ((u.length:Int) ≤ (n:Int)) then 1 else 0):=by
        rw [ea]
        by_cases z:n < u.length
        · rw [if_pos z,decide_eq_false (show ¬ (u.length:Int) ≤ (n:Int) by omega)]
          simp
        · rw [if_neg z,decide_eq_true (show (u.length:Int) ≤ (n:Int) by omega)]
          simp
      rw [e2] at main
      exact ⟨_,rfl,main⟩
  refine hc _ _ ?_
  clear hc c
  refine seq_set fun c hc=>?_
  and_intros
  refine ⟨by decide,fun p hp=>hc _ _ ?_⟩
  clear hc c
  have s1:=Same.up H1 hp (o:=.lst [])
  have l1:(upd H1 p (.lst [])) p = some (.lst []):=upd_same
  generalize upd H1 p _ = H2 at s1 l1 ⊢
  have nosub:∀ b ∈ [p],H1 b = none:=fun b hb=>by rw [List.mem_singleton.mp hb]; exact hp
  simp only [List.set_cons_zero,List.set_cons_succ]
  refine seq_any fun c hc=>?_
  refine for_r2B (l:=(loN L lo n:Nat)) (j:=(hiN L hi n:Nat)) (fun Q h=>by
    and_intros
    rw [show ((hiN L hi n:Nat):Int) - 1 + 1 = ((hiN L hi n:Nat):Int) by omega]
    exact h) (SomeInv L h j lo hi n p _ v7 H2) ⟨none,fun b o e _=>e,l1,rfl⟩ ?_ ?_
  · rintro i σ H' hi' ⟨v10,k',l',rfl⟩
    have lenb:((List.range' (loN L lo n) i).filter (ow L (endsL L h j))).length ≤ i:=Nat.le_trans (List.length_filter_le _ _) (by rw [List.length_range']; exact Nat.le_refl _)
    have em:((loN L lo n:Nat):Int) + (i:Int) = ((loN L lo n + i:Nat):Int):=(Int.natCast_add _ _).symm
    rw [em]
    generalize hW:loN L lo n + i = W
    have own:=own_iff (h:=h) (j:=j) (show 0 < L by omega) W
    have e1:(W:Int) % (L:Int) = ((W % L:Nat):Int):=(Int.natCast_emod _ _).symm
    have rr:List.range' (loN L lo n) (i + 1) = List.range' (loN L lo n) i ++ [W]:=by
      rw [List.range'_concat,Nat.one_mul,hW]
    have hj:=D.hj
    have hh:=D.hh
    have no:ow L (endsL L h j) W ≠ true→SomeInv L h j lo hi n p (some (.int ((hiN L hi n:Nat) - 1))) v7 H2 (i + 1) [some (.int L),some (.int h),some (.int j),some (oV lo),some (oV hi),some (.int n),some (.int ((hiN L hi n:Nat) - 1)),v7,some (.int (loN L lo n:Nat)),some (.ref p),some (.int W)] H':=fun z=>⟨_,k',by rw [rr,List.filter_append,l']; simp [z],rfl⟩
    and_intros
    rw [e1]
    refine ⟨by omega,?_⟩
    by_cases z:(0:Int) < ((W % L:Nat):Int)
    · rw [if_pos z]
      have e2:(((W % L:Nat):Int) - 1) % (h:Int) = (((W % L - 1) % h:Nat):Int):=by
        rw [show ((W % L:Nat):Int) - 1 = ((W % L - 1:Nat):Int) by omega]
        exact (Int.natCast_emod _ _).symm
      rw [e2]
      refine ⟨by omega,by omega,rfl,?_⟩
      by_cases z2:(((W % L - 1) % h:Nat):Int) = (j:Int)
      · rw [if_pos z2]
        have yes:ow L (endsL L h j) W = true:=own.mpr ⟨by omega,by omega⟩
        refine ⟨.inl ⟨rfl,_,SqL.of l'⟩,append_go l' (by rw [List.length_map]; omega) ⟨_,k'.upd (.inl List.mem_cons_self),?_,rfl⟩⟩
        rw [upd_same,rr,List.filter_append,List.map_append]
        simp [yes]
      · rw [if_neg z2]
        exact no fun y=>z2 (by have:=(own.mp y).2; omega)
    · rw [if_neg z]
      exact no fun y=>z (by have:=(own.mp y).1; omega)
  · rintro σ H' ⟨v10,k',l',rfl⟩
    refine hc _ _ ?_
    and_intros
    rw [show (((hiN L hi n:Nat):Int) - ((loN L lo n:Nat):Int)).toNat = hiN L hi n - loN L lo n by omega] at l'
    exact q H' p (same_keep s1 k' nosub) hp l'
theorem nums_len {L h j n:Nat} {lo hi:Option (List Nat)} (D:Hands L h j):((numsH L h j lo hi n).length:Int) = max 0 (roomB true L (endsL L h j) lo hi n):=by
  have E:=ends_ok (K:=L) D.hj D.hh
  have hL0:0 < L:=by have:=D.l2; omega
  have er:roomB true L (endsL L h j) lo hi n = (ob L (endsL L h j) (hiN L hi n):Nat) - (ob L (endsL L h j) (loN L lo n):Nat):=rfl
  rw [er]
  unfold numsH
  rcases Nat.le_total (loN L lo n) (hiN L hi n) with z | z
  · rw [seg hL0 E z,List.length_map,List.length_range']
    have:=ob_mono hL0 E z
    omega
  · rw [show hiN L hi n - loN L lo n = 0 by omega]
    have:=ob_mono hL0 E z
    simp only [List.range'_zero,List.filter_nil,List.length_nil]
    omega
theorem nums_at {L h j n k:Nat} {lo hi:Option (List Nat)} (D:Hands L h j) (hk:k < (numsH L h j lo hi n).length):(numsH L h j lo hi n)[k]? = some (nth L (endsL L h j) (ob L (endsL L h j) (loN L lo n) + k)):=by
  have E:=ends_ok (K:=L) D.hj D.hh
  have hL0:0 < L:=by have:=D.l2; omega
  unfold numsH at hk ⊢
  rcases Nat.le_total (loN L lo n) (hiN L hi n) with z | z
  · rw [seg hL0 E z] at hk ⊢
    rw [List.length_map,List.length_range'] at hk
    rw [List.getElem?_map,List.getElem?_range' hk,Nat.one_mul]
    rfl
  · rw [show hiN L hi n - loN L lo n = 0 by omega] at hk
    simp at hk
theorem few_next {L h j n:Nat} {lo hi:Option (List Nat)} (D:Hands L h j) (M:MarksOk L lo hi) (hr:roomB true L (endsL L h j) lo hi n < 1):hiN L hi (n + 1) ≤ loN L lo (n + 1) + 90000:=by
  have E:=ends_ok (K:=L) D.hj D.hh
  have hL2:=D.l2
  have hL26:=D.l26
  have hL0:0 < L:=by omega
  have er:roomB true L (endsL L h j) lo hi n = (ob L (endsL L h j) (hiN L hi n):Nat) - (ob L (endsL L h j) (loN L lo n):Nat):=rfl
  rw [er] at hr
  have near:hiN L hi n < loN L lo n + 2 * L:=by
    refine Classical.byContradiction fun z=>?_
    have d1:=Nat.div_add_mod (loN L lo n) L
    have d2:=Nat.mod_lt (loN L lo n) hL0
    have b:=ob_blocks hL0 E (loN L lo n / L + 1) 1
    have e1:(loN L lo n / L + 1) * L = L * (loN L lo n / L) + L:=by rw [Nat.add_mul,Nat.one_mul,Nat.mul_comm]
    have e2:(loN L lo n / L + 1 + 1) * L = L * (loN L lo n / L) + L + L:=by rw [Nat.add_mul,e1,Nat.one_mul]
    rw [e1,e2] at b
    have m1:=ob_mono hL0 E (show loN L lo n ≤ L * (loN L lo n / L) + L + 1 by omega)
    have m2:=ob_mono hL0 E (show L * (loN L lo n / L) + L + L ≤ hiN L hi n by omega)
    omega
  have h1:hiN L hi (n + 1) ≤ highO L hi (n + 1) + 1:=by
    cases hi with
    | none=>exact Nat.le_succ _
    | some u=>
      show (if n + 1 < u.length then _ else _) ≤ _
      split <;> omega
  have h2:highO L hi n ≤ hiN L hi n:=by
    cases hi with
    | none=>exact Nat.le_refl _
    | some u=>
      show _ ≤ (if n < u.length then _ else _)
      split
      · exact Nat.le_succ _
      · exact Nat.le_refl _
  have f1:=figO_lt hL0 (o:=hi) (n:=n) fun m e=>(M.mhi m e).1.ls
  rw [highO_succ] at h1
  have e3:loN L lo (n + 1) = valO L lo n * L + figO lo n + 1:=by show valO L lo (n + 1) + 1 = _; rw [valO_succ]
  have e4:loN L lo n = valO L lo n + 1:=rfl
  have m3:highO L hi n * L ≤ (valO L lo n + 2 * L + 1) * L:=Nat.mul_le_mul_right L (by omega)
  have m4:(valO L lo n + 2 * L + 1) * L = valO L lo n * L + (2 * L) * L + L:=by rw [Nat.add_mul,Nat.add_mul,Nat.one_mul]
  have m5:(2 * L) * L ≤ 52 * 26:=Nat.mul_le_mul (by omega) hL26
  omega
theorem few_one {L:Nat} {lo hi:Option (List Nat)} (hL26:L ≤ 26) (hL:0 < L) (M:MarksOk L lo hi):hiN L hi 1 ≤ loN L lo 1 + 90000:=by
  have:=ahead_le 1 hL M
  rw [Nat.pow_one] at this
  have e:hiN L hi 1 = aheadN hi (highO L hi 1) 1:=rfl
  omega
def spHBetween:Sp:=fun vs H Q _=>∃ (L h j:Nat) (lo hi:Option (List Nat)),vs = [.int L,.int h,.int j,oV lo,oV hi]∧Hands L h j∧MarksOk L lo hi∧OkLH lo hi∧∀ H' m,Same H H'→(∀ n w m',Found L (endsL L h j) lo hi n w m'→m' = m)→Q (.str (txt m)) H'
def rdHBetween (K:PySem.W.Frag):TS:=
    tSeq (tAsg (tLst tNil) (gName 5))
      (tSeq (tAsg (tC (.int 0)) (gName 6))
      (tSeq (tWhile (tTest (tOp rEq (tCB (rLenL K) (tCons (tVar 5) tNil)) (tC (.int 0)))) (tSeq (tAsg (tOp rAddI (tVar 6) (tC (.int 1))) (gName 6))
      (tAsg (tCall spLSome [] E0 (tCons (tVar 0) (tCons (tVar 1) (tCons (tVar 2) (tCons (tVar 3) (tCons (tVar 4) (tCons (tVar 6) tNil))))))) (gName 5))))
      (tSeq (tAsg (tOp rDivI (tOp rSubI (tCB (rLenL K) (tCons (tVar 5) tNil)) (tC (.int 1))) (tC (.int 2))) (gName 7))
      (tSeq (tIfS (tAnd (tB (tNotN (tVar 3))) (tB (tIsN (tVar 4)))) (tAsg (tC (.int 0)) (gName 7)) (tNext))
      (tSeq (tIfS (tAnd (tB (tIsN (tVar 3))) (tB (tNotN (tVar 4)))) (tAsg (tOp rSubI (tCB (rLenL K) (tCons (tVar 5) tNil)) (tC (.int 1))) (gName 7)) (tNext))
      (tRet (tCall spText [] E0 (tCons (tVar 0) (tCons (tOp (rIxL K) (tVar 5) (tVar 7)) (tCons (tVar 6) tNil))))))))))
def HBInv (L h j:Nat) (lo hi:Option (List Nat)) (H:Hp):Nat→St→Hp→Prop:=fun x σ H'=>∃ (n:Nat) (p:Addr) (ns:List Nat),Same H H'∧H' p = some (.lst (ns.map fun w=>.int (w:Nat)))∧n ≤ 1001∧x = 1001 - n∧(n = 0→ns = [])∧(1 ≤ n→ns = numsH L h j lo hi n)∧(∀ m,1 ≤ m→m < n→roomB true L (endsL L h j) lo hi m < 1)∧
  σ = [some (.int L),some (.int h),some (.int j),some (oV lo),some (oV hi),some (.ref p),some (.int n),none]
theorem read_hbetween {K:PySem.W.Frag} {N:List Str} {vs:List V} {H:Hp} {Q:VK} {E:XK} (hN:N.length = 8) (h:spHBetween vs H Q E):rdHBetween K { nx:=fun _ H'=>Q .non H',rt:=Q } (L2.start N vs) H:=by
  obtain ⟨L,h,j,lo,hi,rfl,D,M,ok,q⟩:=h
  have hlen:=M.lens
  have hL2:=D.l2
  have hL26:=D.l26
  have hL0:0 < L:=by omega
  have EN:=ends_ok (K:=L) D.hj D.hh
  unfold rdHBetween L2.start
  rw [hN]
  refine seq_set fun c hc=>?_
  and_intros
  refine ⟨by decide,fun p0 hp0=>hc _ _ ?_⟩
  clear hc c
  refine seq_set fun c hc=>?_
  and_intros
  refine hc _ _ ?_
  clear hc c
  simp only [List.set_cons_zero,List.set_cons_succ,List.replicate_succ,List.replicate_zero,List.map_cons,List.map_nil,List.cons_append,List.nil_append]
  refine seq_any fun c hc=>?_
  suffices main:∀ n p H',Same H H'→H' p = some (.lst ((numsH L h j lo hi n).map fun w=>.int (w:Nat)))→1 ≤ n→n ≤ 1001→numsH L h j lo hi n ≠ []→(∀ m,1 ≤ m→m < n→roomB true L (endsL L h j) lo hi m < 1)→c [some (.int L),some (.int h),some (.int j),some (oV lo),some (oV hi),some (.ref p),some (.int n),none] H' by
    refine while_of (HBInv L h j lo hi H) 1001 ⟨0,p0,[],Same.up _ hp0,upd_same,by decide,rfl,fun _=>rfl,fun z=>by omega,fun m h1 h2=>by omega,rfl⟩ ?_
    rintro x σ H' ⟨n,p,ns,s,hp,hn,hx,hz,h1,less,rfl⟩ R hgo hstop
    and_intros
    refine lenL_go (SqL.of hp) ⟨rfl,?_⟩
    rw [List.length_map]
    by_cases e:ns = []
    · rw [decide_eq_true (show V.int ((ns.length:Nat):Int) = V.int 0 by rw [e]; rfl)]
      refine hgo _ ?_
      have rn:1 ≤ n→roomB true L (endsL L h j) lo hi n < 1:=fun z=>by
        have:=nums_len (n:=n) (lo:=lo) (hi:=hi) D
        rw [← h1 z,e,List.length_nil] at this
        omega
      have hn1:n ≤ 1000:=by
        rcases Nat.lt_or_ge 1000 n with z | z
        · have e:n = 1000 + 1:=by omega
          subst e
          have:=room_last1 (b:=true) hL2 EN M ok hlen.1 hlen.2
          have:=rn (by omega)
          omega
        · exact z
      and_intros
      refine ⟨L,h,j,lo,hi,n + 1,rfl,D,M,by omega,?_,fun H2 p2 s2 _ hp2=>?_⟩
      · rcases Nat.eq_zero_or_pos n with z | z
        · rw [z]; exact few_one hL26 hL0 M
        · exact few_next D M (rn z)
      · refine ⟨1001 - (n + 1),by omega,n + 1,p2,_,s.trans s2,hp2,by omega,rfl,fun z=>by omega,fun _=>rfl,fun m m1 m2=>?_,rfl⟩
        by_cases e:m = n
        · subst e; exact rn m1
        · exact less m m1 (by omega)
    · rw [decide_eq_false (fun z=>e (List.length_eq_zero_iff.mp (by have:=V.int.inj z; omega)))]
      have n1:1 ≤ n:=by
        rcases Nat.eq_zero_or_pos n with z | z
        · exact absurd (hz z) e
        · exact z
      rw [h1 n1] at hp e
      exact hstop _ (main n p H' s hp n1 hn e less)
  intro n p H' s hp n1 n1001 ne less
  refine hc _ _ ?_
  clear hc c
  have nl:=nums_len (n:=n) (lo:=lo) (hi:=hi) D
  have npos:0 < (numsH L h j lo hi n).length:=List.length_pos_iff.mpr ne
  have eroom:roomI L (endsL L h j) lo hi n = ((numsH L h j lo hi n).length:Int):=by
    have e:roomI L (endsL L h j) lo hi n = roomB true L (endsL L h j) lo hi n:=rfl
    rw [e]
    omega
  have told:=told_in lo hi (z:=roomI L (endsL L h j) lo hi n) (by rw [eroom]; omega)
  have LB:∀ n2 w m',Found L (endsL L h j) lo hi n2 w m'→n2 = n:=fun n2 w m' F=>by
    rcases Nat.lt_trichotomy n2 n with z | z | z
    · have:=less n2 F.least.pos z
      have:=F.least.room
      omega
    · exact z
    · have:=F.least.less n n1 z
      omega
  have fin:∀ k:Int,k = toldI lo hi (roomI L (endsL L h j) lo hi n)→rIxL K (.ref p) (.int k) H' fun v H2=>spText [.int L,v,.int n] H2 Q E0:=fun k hk=>by
    rw [eroom] at told
    have hk0:0 ≤ k:=by rw [hk,eroom]; exact told.1
    have hk1:k < ((numsH L h j lo hi n).length:Int):=by rw [hk,eroom]; exact told.2
    have at_:=nums_at (k:=k.toNat) D (show k.toNat < (numsH L h j lo hi n).length by omega)
    generalize hg:nth L (endsL L h j) (ob L (endsL L h j) (loN L lo n) + k.toNat) = W at at_
    refine ixL_go (v:=.int (W:Nat)) (SqL.of hp) hk0 (by rw [List.getElem?_map,at_]; rfl) ⟨L,W,n,rfl,hL0,hL26,by omega,q H' _ s fun n2 w m' F=>?_⟩
    have e2:=LB n2 w m' F
    subst e2
    have a1:=F.at_
    have a2:ob L (endsL L h j) w = ob L (endsL L h j) (loN L lo n2) + k.toNat:=by
      have e4:loN L lo n2 = valO L lo n2 + 1:=rfl
      rw [e4]
      omega
    have a3:=nth_ob hL0 EN F.own
    rw [a2,hg] at a3
    rw [a3,F.eq]
    have hw:w % L ≠ 0:=by have:=((own_iff hL0 w).mp F.own).1; omega
    obtain ⟨n',rfl⟩:∃ n',n2 = n' + 1:=⟨n2 - 1,by omega⟩
    exact (MM.mk_low hL0 hw).symm
  refine seq_set fun c hc=>?_
  and_intros
  refine lenL_go (SqL.of hp) ?_
  rw [List.length_map]
  refine ⟨_,rfl,cdiv (by decide) (by decide),hc _ _ ?_⟩
  clear hc c
  simp only [List.set_cons_zero,List.set_cons_succ]
  rw [eroom] at fin
  cases lo with
  | none=>
    cases hi with
    | none=>
      simp? [oV]
      exact fin _ rfl
    | some u=>
      simp? [oV]
      refine lenL_go (SqL.of hp) ?_
      rw [List.length_map]
      exact ⟨_,rfl,fin _ rfl⟩
  | some l=>
    cases hi with
    | none=>
      simp? [oV]
      exact fin _ rfl
    | some u=>
      simp? [oV]
      exact fin _ rfl
def kRen:List Nat:=[114,101,110,101,119,97,108,115]
def kThi:List Nat:=[116,104,105,110,103,115]
def kTak:List Nat:=[116,97,107,101,110]
def recD (q1 q2 q3:Addr):List (Key × V):=[(Key.inr (txt kRen),.ref q1),(Key.inr (txt kThi),.ref q2),(Key.inr (txt kTak),.ref q3)]
theorem key_ne {a b:List Nat} (h:a ≠ b):¬ (Key.inr (txt a):Key) = Key.inr (txt b):=fun z=>h (txt_inj.mp (by injection z))
theorem val_ren (q1 q2 q3:Addr):valV (recD q1 q2 q3) (Key.inr (txt kRen)) = some (.ref q1):=by unfold recD; rw [valV_pos rfl]
theorem val_thi (q1 q2 q3:Addr):valV (recD q1 q2 q3) (Key.inr (txt kThi)) = some (.ref q2):=by unfold recD; rw [valV_neg (key_ne (by decide)),valV_pos rfl]
theorem val_tak (q1 q2 q3:Addr):valV (recD q1 q2 q3) (Key.inr (txt kTak)) = some (.ref q3):=by unfold recD; rw [valV_neg (key_ne (by decide)),valV_neg (key_ne (by decide)),valV_pos rfl]
structure Mdl (H:Hp) (pm q1 q2 q3:Addr) (as:List Addr) (R:List (List RwN)) (kvs:List (List Nat × List Nat)) (ks:List (List Nat)):Prop where
  top:H pm = some (.dK (recD q1 q2 q3))
  ren:Ren H q1 as R
  thi:H q2 = some (.dK (thD kvs))
  tak:H q3 = some (.dK (tkD ks))
  n23:q2 ≠ q3
  n2:pm ≠ q2
  n3:pm ≠ q3
theorem Mdl.same {H H':Hp} {pm q1 q2 q3:Addr} {as:List Addr} {R:List (List RwN)} {kvs:List (List Nat × List Nat)} {ks:List (List Nat)} (S:Mdl H pm q1 q2 q3 as R kvs ks) (s:Same H H'):Mdl H' pm q1 q2 q3 as R kvs ks:=
  ⟨s _ _ S.top,S.ren.same s,s _ _ S.thi,s _ _ S.tak,S.n23,S.n2,S.n3⟩
section
variable {H:Hp} {pm q1 q2 q3:Addr} {as:List Addr} {R:List (List RwN)} {kvs:List (List Nat × List Nat)} {ks:List (List Nat)} {σ:St} {i:Nat} {Q:VK}
theorem mRen_go (S:Mdl H pm q1 q2 q3 as R kvs ks) (e:σ[i]? = some (some (.ref pm))) (q:Q (.ref q1) H):tDGet (tVar i) (tC (.str (txt [114,101,110,101,119,97,108,115]))) σ H Q:=⟨_,e,pm,_,rfl,by rw [← val_ren q1 q2 q3]; exact DGet.k (k:=Key.inr (txt kRen)) S.top,q⟩
theorem mThi_go (S:Mdl H pm q1 q2 q3 as R kvs ks) (e:σ[i]? = some (some (.ref pm))) (q:Q (.ref q2) H):tDGet (tVar i) (tC (.str (txt [116,104,105,110,103,115]))) σ H Q:=⟨_,e,pm,_,rfl,by rw [← val_thi q1 q2 q3]; exact DGet.k (k:=Key.inr (txt kThi)) S.top,q⟩
theorem mTak_go (S:Mdl H pm q1 q2 q3 as R kvs ks) (e:σ[i]? = some (some (.ref pm))) (q:Q (.ref q3) H):tDGet (tVar i) (tC (.str (txt [116,97,107,101,110]))) σ H Q:=⟨_,e,pm,_,rfl,by rw [← val_tak q1 q2 q3]; exact DGet.k (k:=Key.inr (txt kTak)) S.top,q⟩
theorem mGet_go {td:TE} {v:List Nat} (S:Mdl H pm q1 q2 q3 as R kvs ks) (hd:∀ R:VK,R (.ref q2) H→td σ H R) (e:σ[i]? = some (some (.str (txt v)))) (hm:v ∈ kvs.map (·.1)) (q:Q (strV (thingOf kvs v)) H):tDGet td (tVar i) σ H Q:=
  hd _ ⟨_,e,q2,_,rfl,by rw [← val_of v kvs hm]; exact DGet.k (k:=Key.inr (txt v)) S.thi,q⟩
end
def spLShown:Sp:=fun vs H Q _=>∃ (pm q1 q2 q3:Addr) (as:List Addr) (R:List (List RwN)) (kvs:List (List Nat × List Nat)) (ks:List (List Nat)),vs = [.ref pm]∧Mdl H pm q1 q2 q3 as R kvs ks∧kvs.length < 64∧(kvs.map (·.1)).Nodup∧
  ∀ H' p zs,Same H H'→H p = none→H' p = some (.lst (zs.map strV))→Shown kvs ks zs→Q (.ref p) H'
def rdLShown (K:PySem.W.Frag):TS:=
    tRet (tComp (iList K (tCB rSortedD (tCons (tDGet (tVar 0) (tC (.str (txt [116,104,105,110,103,115])))) tNil))) [0] (tTest (tOp (rInD true) (tVar 0) (tDGet (tVar 1) (tC (.str (txt [116,97,107,101,110])))))) (tVar 0))
theorem read_lshown {K:PySem.W.Frag} {N:List Str} {vs:List V} {H:Hp} {Q:VK} {E:XK} (hN:N.length = 1) (h:spLShown vs H Q E):rdLShown K { nx:=fun _ H'=>Q .non H',rt:=Q } (L2.start N vs) H:=by
  obtain ⟨pm,q1,q2,q3,as,R,kvs,ks,rfl,S,h64,hnd,q⟩:=h
  unfold rdLShown L2.start
  rw [hN]
  and_intros
  refine comp_by fun R0 hR0=>?_
  simp? [iList]
  refine mThi_go S rfl ⟨q2,kvs.map fun kv=>(kv.1,strV kv.2),rfl,by rw [← thD_eq]; exact S.thi,by rw [List.length_map]; exact h64,fun l zs hl hpm hle=>⟨l,rfl,⟨_,SqL.here⟩,?_⟩⟩
  rw [hR0]
  have hk:(kvs.map fun kv=>(kv.1,strV kv.2)).map (·.1) = kvs.map (·.1):=by rw [List.map_map]; rfl
  rw [hk] at hpm
  have zlt:=lt_of_sorted hle (hpm.nodup_iff.mpr hnd)
  have s1:=Same.up H hl (o:=.lst (zs.map strV))
  have S1:=S.same s1
  have hZ:(upd H l (.lst (zs.map strV))) l = some (.lst (zs.map strV)):=upd_same
  generalize upd H l _ = H1 at s1 S1 hZ ⊢
  have zl:zs.length < 64:=by rw [hpm.length_eq,List.length_map]; exact h64
  refine comp_lst (K:=K) (xs:=zs.map strV) (σ:=[some (.ref pm)]) (fs:=[0]) (tt:=tTest (tOp (rInD true) (tVar 0) (tDGet (tVar 1) (tC (.str (txt [116,97,107,101,110])))))) (te:=tVar 0) (Q:=Q) (HMInv H1 zs ks) ⟨rfl,rfl⟩ (fun i ys H' _ p=>by
    obtain ⟨e,e2⟩:=p
    rw [e,e2,List.length_map]
    refine ⟨SqL.of hZ,Nat.le_trans (List.length_filter_le _ _) ?_⟩
    rw [List.length_take]
    exact Nat.min_le_left _ _) (by rw [List.length_map,sizeLine_eq]; omega) ?_ ?_
  · rintro i v ys H' hv ⟨rfl,rfl⟩ W hW
    rw [List.getElem?_map] at hv
    obtain ⟨m,hm,rfl⟩:=Option.map_eq_some_iff.mp hv
    simp? [strV]
    refine mTak_go S1 rfl ⟨q3,_,rfl,DGet.k (k:=Key.inr (txt m)) S1.tak,_,rfl,?_⟩
    rw [val_tk]
    have etk:zs.take (i + 1) = zs.take i ++ [m]:=by rw [List.take_add_one,hm]; rfl
    by_cases z:m ∈ ks
    · rw [if_neg (by simp [z])]
      refine hW _ _ ⟨rfl,?_⟩
      rw [etk,List.filter_append]
      simp [z]
    · rw [if_pos (by simp [z])]
      refine hW _ _ ⟨rfl,?_⟩
      rw [etk,List.filter_append,List.map_append]
      simp [z,strV]
  · rintro ys H' ⟨rfl,rfl⟩ p hp
    rw [List.length_map,List.take_length]
    refine q _ p _ (s1.new hp) (s1.free1 hp) upd_same ⟨zlt.filter _,fun m=>?_⟩
    rw [List.mem_filter,hpm.mem_iff]
    simp
theorem kvs_eq:∀ {kvs:List (List Nat × List Nat)},(kvs.map (·.1)).Nodup→(kvs.map (·.1)).map (fun m=>(m,thingOf kvs m)) = kvs
  | [],_=>rfl
  | kv :: kvs,h=>by
    rw [List.map_cons,List.nodup_cons] at h
    have ih:=kvs_eq h.2
    rw [List.map_cons,List.map_cons]
    have e1:thingOf (kv :: kvs) kv.1 = kv.2:=by unfold thingOf; rw [if_pos rfl]
    rw [e1]
    have e2:∀ m ∈ kvs.map (·.1),thingOf (kv :: kvs) m = thingOf kvs m:=fun m hm=>by
      show (if kv.1 = m then kv.2 else thingOf kvs m) = _
      rw [if_neg (fun z=>h.1 (by rw [z]; exact hm))]
    rw [List.map_congr_left (g:=fun m=>(m,thingOf kvs m)) (fun m hm=>by rw [e2 m hm]),ih]
def spLState (K:PySem.W.Frag):Sp:=fun vs H Q _=>∃ (ps pm q1 q2 q3:Addr) (as:List Addr) (R:List (List RwN)) (kvs:List (List Nat × List Nat)) (ks:List (List Nat)) (L h:Nat),vs = [.ref ps,.ref pm]∧SqT K H ps [.int L,.int h]∧Mdl H pm q1 q2 q3 as R kvs ks∧kvs.length < 64∧(kvs.map (·.1)).Nodup∧ks.length < 64∧ks.Nodup∧R.length ≤ 1000∧
  ∀ H' p p1 p2 p3 bs ts zs ws,Same H H'→Told kvs ks zs ws→StA H' p p1 p2 p3 bs ts L h R zs ws→(∀ b ∈ p :: p1 :: p2 :: p3 :: bs,H b = none)→Q (.ref p) H'
def rdLState (K:PySem.W.Frag):TS:=
    tSeq (tCompSet 2 (iList K (tCB rSortedD (tCons (tDGet (tVar 1) (tC (.str (txt [116,104,105,110,103,115])))) tNil))) [1] tYes (tTup (tCons (tVar 0) (tCons (tDGet (tDGet (tVar 1) (tC (.str (txt [116,104,105,110,103,115])))) (tVar 0)) tNil))))
      (tRet (tTup (tCons (tOp (rIxT K) (tVar 0) (tC (.int 0))) (tCons (tOp (rIxT K) (tVar 0) (tC (.int 1))) (tCons (tComp (iList K (tDGet (tVar 1) (tC (.str (txt [114,101,110,101,119,97,108,115]))))) [] tYes (tCB (rListOf K) (tCons (tVar 0) tNil))) (tCons (tVar 2) (tCons (tCB rSortedD (tCons (tDGet (tVar 1) (tC (.str (txt [116,97,107,101,110])))) tNil)) tNil)))))))
def LSInv (H:Hp) (kvs:List (List Nat × List Nat)) (zs:List (List Nat)):Nat→List V→Hp→Prop:=fun i ys H'=>Same H H'∧Prs H' ys (((zs.take i).map fun m=>(m,thingOf kvs m)).map stP)∧ys.length = i
theorem copy_go {K:PySem.W.Frag} {tl:TE} {σ:St} {H:Hp} {Q:VK} {pr:Addr} {as:List Addr} {R:List (List RwN)} (ha:∀ Q:VK,Q (.ref pr) H→tl σ H Q) (hr:H pr = some (.lst (as.map V.ref))) (hR:RowsC H as R) (hl:R.length ≤ 10000)
    (q:∀ H' p bs,Same H H'→H' p = some (.lst (bs.map V.ref))→RowsC H' bs R→(∀ b ∈ p :: bs,H b = none)→Q (.ref p) H'):tComp (iList K tl) [] tYes (tCB (rListOf K) (tCons (tVar 0) tNil)) σ H Q:=by
  have al:=hR.len
  refine comp_l (a:=pr) (xs:=as.map V.ref) ha (SqL.of hr) (SOInv H R) ⟨Same.refl _,[],rfl,trivial,List.nodup_nil,fun b hb=>(nomatch hb),Nat.zero_le _⟩ ?_ (by rw [List.length_map,sizeLine_eq]; omega) ?_ ?_
  · rintro i ys H' _ ⟨s,bs,rfl,_,_,_,hbl⟩
    exact ⟨SqL.of (s _ _ hr),by rw [List.length_map]; exact hbl⟩
  · rintro i v ys H' hv ⟨s,bs,rfl,hrows,hnd,hfr,hbl⟩ W hW
    rw [List.getElem?_map] at hv
    obtain ⟨a,ha,rfl⟩:=Option.map_eq_some_iff.mp hv
    obtain ⟨r,xs,er,hx,px⟩:=(hR.same s).get ha
    and_intros
    refine ⟨a,xs,rfl,.inl (SqL.of hx),fun l hl=>?_⟩
    have e:R.take (i + 1) = R.take i ++ [r]:=by rw [List.take_add_one,er]; rfl
    have s2:=Same.up H' hl (o:=.lst xs)
    have:=hW (bs.map V.ref ++ [.ref l]) (upd H' l (.lst xs)) ⟨s.trans s2,bs ++ [l],by rw [List.map_append]; rfl,by rw [e]; exact (hrows.same s2).app ⟨⟨xs,upd_same,px.same s2⟩,trivial⟩,?_,fun b hb=>?_,by rw [List.length_append]; simp; omega⟩
    · exact this
    · rw [List.nodup_append]
      exact ⟨hnd,by simp,fun b hb c hc=>by
        rw [List.mem_singleton.mp hc]
        intro z
        subst z
        obtain ⟨j,hj⟩:=List.getElem?_of_mem hb
        obtain ⟨_,_,_,w,_⟩:=hrows.get hj
        rw [w] at hl; cases hl⟩
    · rcases List.mem_append.mp hb with hb | hb
      · exact hfr b hb
      · rw [List.mem_singleton.mp hb]; exact s.free1 hl
  · rintro ys H1 ⟨s,bs,rfl,hrows,hnd,hfr,hbl⟩ p1 hp1
    rw [List.length_map,al,List.take_length] at hrows
    refine q _ p1 bs (s.new hp1) upd_same (hrows.same (Same.up H1 hp1)) fun b hb=>?_
    rcases List.mem_cons.mp hb with rfl | hb
    · exact s.free1 hp1
    · exact hfr b hb
theorem read_lstate {K:PySem.W.Frag} {N:List Str} {vs:List V} {H:Hp} {Q:VK} {E:XK} (hN:N.length = 3) (h:spLState K vs H Q E):rdLState K { nx:=fun _ H'=>Q .non H',rt:=Q } (L2.start N vs) H:=by
  obtain ⟨ps,pm,q1,q2,q3,as,R,kvs,ks,L,h,rfl,hps,S,h64,hnd,k64,knd,hRl,q⟩:=h
  unfold rdLState L2.start
  rw [hN]
  refine seq_cset fun c hc=>?_
  refine comp_by fun R0 hR0=>?_
  simp? [iList]
  refine mThi_go S rfl ⟨q2,kvs.map fun kv=>(kv.1,strV kv.2),rfl,by rw [← thD_eq]; exact S.thi,by rw [List.length_map]; exact h64,fun l zs hl hpm hle=>⟨l,rfl,⟨_,SqL.here⟩,?_⟩⟩
  rw [hR0]
  have hk:(kvs.map fun kv=>(kv.1,strV kv.2)).map (·.1) = kvs.map (·.1):=by rw [List.map_map]; rfl
  rw [hk] at hpm
  have zlt:=lt_of_sorted hle (hpm.nodup_iff.mpr hnd)
  have s1:=Same.up H hl (o:=.lst (zs.map strV))
  have hZ:(upd H l (.lst (zs.map strV))) l = some (.lst (zs.map strV)):=upd_same
  generalize upd H l _ = H1 at s1 hZ ⊢
  have zl:zs.length < 64:=by rw [hpm.length_eq,List.length_map]; exact h64
  refine comp_lst (K:=K) (xs:=zs.map strV) (σ:=[some (.ref ps),some (.ref pm),none]) (fs:=[1]) (tt:=tYes) (te:=tTup (tCons (tVar 0) (tCons (tDGet (tDGet (tVar 1) (tC (.str (txt [116,104,105,110,103,115])))) (tVar 0)) tNil))) (Q:=c) (LSInv H1 kvs zs) ⟨Same.refl _,trivial,rfl⟩ (fun i ys H' _ p=>⟨SqL.of (p.1 _ _ hZ),by rw [p.2.2]; exact Nat.le_refl _⟩) (by rw [List.length_map,sizeLine_eq]; omega) ?_ ?_
  · rintro i v ys H' hv ⟨s',p',rfl⟩ W hW
    rw [List.getElem?_map] at hv
    obtain ⟨m,hm,rfl⟩:=Option.map_eq_some_iff.mp hv
    have S':=(S.same s1).same s'
    have hmk:=hpm.mem_iff.mp (List.mem_of_getElem? hm)
    simp? [strV]
    refine mGet_go (v:=m) S' (fun R r=>mThi_go S' rfl r) rfl hmk ⟨by decide,fun t ht=>?_⟩
    have s2:=Same.up H' ht (o:=.tup [.str (txt m),strV (thingOf kvs m)])
    refine hW _ _ ⟨s'.trans s2,?_,by rw [List.length_append]; rfl⟩
    have e:(((zs.take (ys.length + 1)).map fun m=>(m,thingOf kvs m)).map stP) = (((zs.take ys.length).map fun m=>(m,thingOf kvs m)).map stP) ++ [(strV m,strV (thingOf kvs m))]:=by
      rw [List.take_add_one,hm,List.map_append,List.map_append]
      rfl
    rw [e]
    exact (p'.same s2).app ⟨⟨t,rfl,upd_same⟩,trivial⟩
  rintro ts H2 ⟨s2,p2,hyl⟩ p2' hp2'
  rw [List.length_map,List.take_length] at p2
  refine hc _ _ ?_
  clear hc
  have s2:=s1.trans s2
  have s3:=s2.new hp2' (o:=.lst ts)
  have pr3:=p2.same (Same.up H2 hp2' (o:=.lst ts))
  have e3:(upd H2 p2' (.lst ts)) p2' = some (.lst ts):=upd_same
  have f2:=s2.free1 hp2'
  generalize upd H2 p2' _ = H3 at s3 pr3 e3 ⊢
  have S3:=S.same s3
  and_intros
  refine ixT_go (v:=.int L) (s3.tup hps) (by decide) rfl (ixT_go (v:=.int h) (s3.tup hps) (by decide) rfl ?_)
  refine copy_go (pr:=q1) (fun R r=>mRen_go S3 rfl r) S3.ren.lst S3.ren.row (by omega) fun H4 p1 bs s4 hp1 r4 fr4=>?_
  have S4:=S3.same s4
  refine mTak_go S4 rfl ⟨q3,ks.map fun m=>(m,V.bl true),rfl,by rw [← tkD_eq]; exact S4.tak,by rw [List.length_map]; exact k64,fun p3 ws hp3 hpm3 hle3=>⟨by decide,fun p hp=>?_⟩⟩
  have ek:(ks.map fun m=>(m,V.bl true)).map (·.1) = ks:=by rw [List.map_map]; exact List.map_id _
  rw [ek] at hpm3
  have wlt:=lt_of_sorted hle3 (hpm3.nodup_iff.mpr knd)
  have s5:=Same.up H4 hp3 (o:=.lst (ws.map strV))
  have s6:=Same.up (upd H4 p3 (.lst (ws.map strV))) hp (o:=.tup [.int L,.int h,.ref p1,.ref p2',.ref p3])
  have s56:=s5.trans s6
  have zp:(zs.map fun m=>(m,thingOf kvs m)).Perm kvs:=by
    have:=hpm.map fun m=>(m,thingOf kvs m)
    rw [kvs_eq hnd] at this
    exact this
  have e56:=s6 _ _ (show (upd H4 p3 (.lst (ws.map strV))) p3 = some (.lst (ws.map strV)) from upd_same)
  refine q _ p p1 p2' p3 bs ts (zs.map fun m=>(m,thingOf kvs m)) ws ((s3.trans s4).trans s56) ⟨zp,?_,hpm3,wlt⟩ ⟨upd_same,s56 _ _ hp1,r4.same s56,s56 _ _ (s4 _ _ e3),(pr3.same s4).same s56,e56⟩ fun b hb=>?_
  · rw [List.map_map]
    have:((fun x:List Nat × List Nat=>x.1) ∘ fun m=>(m,thingOf kvs m)) = id:=rfl
    rw [this,List.map_id]
    exact zlt
  · simp only [List.mem_cons] at hb
    rcases hb with rfl | rfl | rfl | rfl | hb
    · exact ((s3.trans s4).trans s5).free1 hp
    · exact s3.free1 (fr4 _ List.mem_cons_self)
    · exact f2
    · exact (s3.trans s4).free1 hp3
    · exact s3.free1 (fr4 b (List.mem_cons_of_mem _ hb))
theorem stand_app (a b:List (List Nat × Bool)):stand (a ++ b) = stand a + stand b:=by
  unfold stand
  rw [List.filter_append,List.length_append]
theorem rowsR_app (fr:List (List Nat)):∀ (g:Nat) (a b:List (List Nat × Bool)),rowsR fr g (a ++ b) = rowsR fr g a ++ rowsR fr (g + stand a) b
  | g,[],b=>rfl
  | g,(m,true) :: a,b=>by
    rw [List.cons_append,rowsR,rowsR,rowsR_app fr (g + 1) a b,stand_cons,if_pos rfl,List.cons_append,show g + 1 + stand a = g + (stand a + 1) by omega]
  | g,(m,false) :: a,b=>by
    rw [List.cons_append,rowsR,rowsR,rowsR_app fr g a b,stand_cons,if_neg (by decide),List.cons_append]
    rfl
theorem stand_kn {zs ks:List (List Nat)} (h1:zs.Nodup) (h2:ks.Nodup) (h3:∀ m ∈ ks,m ∈ zs):stand (knO zs ks) + ks.length = zs.length:=by
  have e:stand (knO zs ks) = (zs.filter fun m=>!decide (m ∈ ks)).length:=by
    unfold stand knO
    rw [List.filter_map,List.length_map]
    rfl
  have p:((zs.filter fun m=>!decide (m ∈ ks)) ++ ks).Perm zs:=(List.perm_ext_iff_of_nodup (List.nodup_append.mpr ⟨h1.filter _,h2,fun a ha b hb z=>by
    subst z
    have:=(List.mem_filter.mp ha).2
    simp [hb] at this⟩) h1).mpr fun m=>by
      rw [List.mem_append,List.mem_filter]
      constructor
      · rintro (z | z)
        · exact z.1
        · exact h3 m z
      · intro z
        by_cases y:m ∈ ks
        · exact .inr y
        · exact .inl ⟨z,by simp [y]⟩
  have:=p.length_eq
  rw [List.length_append] at this
  omega
def spLRows (K:PySem.W.Frag):Sp:=fun vs H Q _=>∃ (L:Nat) (pm q1 q2 q3:Addr) (as:List Addr) (R:List (List RwN)) (kvs:List (List Nat × List Nat)) (ks:List (List Nat)) (k b:Nat),vs = [.int L,.ref pm]∧2 ≤ L∧L ≤ 26∧Mdl H pm q1 q2 q3 as R kvs ks∧Knows L kvs ks k b∧k ≤ 62∧
  ∀ H' p ys zs n,Same H H'→H p = none→AllK kvs zs→IsRen L (stand (knO zs ks)) n→H' p = some (.lst ys)→Prs H' ys ((renR L zs ks n).map rowP)→Q (.ref p) H'
def rdLRows (K:PySem.W.Frag):TS:=
    tSeq (tAsg (tCB rSortedD (tCons (tDGet (tVar 1) (tC (.str (txt [116,104,105,110,103,115])))) tNil)) (gName 2))
      (tSeq (tAsg (tOp rSubI (tCB (rLenL K) (tCons (tVar 2) tNil)) (tCB rLenD (tCons (tDGet (tVar 1) (tC (.str (txt [116,97,107,101,110])))) tNil))) (gName 3))
      (tSeq (tAsg (tC (.int 1)) (gName 4))
      (tSeq (tAsg (tC (.int 0)) (gName 5))
      (tSeq (tWhile (tTest (tOp rLtI (tOp rSubI (tVar 4) (tC (.int 1))) (tVar 3))) (tSeq (tAsg (tOp rMulI (tVar 4) (tVar 0)) (gName 4))
      (tAsg (tOp rAddI (tVar 5) (tC (.int 1))) (gName 5))))
      (tSeq (tAsg (tLst tNil) (gName 6))
      (tSeq (tAsg (tC (.int 0)) (gName 7))
      (tSeq (tFor (iList K (tVar 2)) (gName 8) (tSeq (tAsg (tC .non) (gName 9))
      (tSeq (tIfS (tTest (tOp (rInD true) (tVar 8) (tDGet (tVar 1) (tC (.str (txt [116,97,107,101,110])))))) (tSeq (tAsg (tOp rAddI (tVar 7) (tC (.int 1))) (gName 7))
      (tAsg (tCall spText [] E0 (tCons (tVar 0) (tCons (tOp rDivI (tOp rMulI (tVar 7) (tVar 4)) (tOp rAddI (tVar 3) (tC (.int 1)))) (tCons (tVar 5) tNil)))) (gName 9))) (tNext))
      (tDrop (tBM K "list" rAppend (tVar 6) (tCons (tTup (tCons (tVar 8) (tCons (tVar 9) tNil))) tNil))))))
      (tRet (tVar 6)))))))))
def LRInv (L m n:Nat) (pm p2 p6:Addr) (H:Hp) (zs ks:List (List Nat)):Nat→St→Hp→Prop:=fun i σ H'=>∃ (ys:List V) (v8 v9:Option V),Keeps [p6] H H'∧H' p6 = some (.lst ys)∧ys.length = i∧Prs H' ys ((rowsR (renL L m n) 0 (knO (zs.take i) ks)).map rowP)∧
  σ = [some (.int L),some (.ref pm),some (.ref p2),some (.int m),some (.int (L ^ n:Nat)),some (.int n),some (.ref p6),some (.int (stand (knO (zs.take i) ks):Nat)),v8,v9]
def LWInv (L m:Nat) (pm p2:Addr) (H1:Hp):Nat→St→Hp→Prop:=fun x σ H'=>∃ n:Nat,H' = H1∧x = 62 - n∧n ≤ 62∧(∀ i,i < n→L ^ i ≤ m)∧σ = [some (.int L),some (.ref pm),some (.ref p2),some (.int m),some (.int (L ^ n:Nat)),some (.int n),none,none,none,none]
theorem read_lrows {K:PySem.W.Frag} {N:List Str} {vs:List V} {H:Hp} {Q:VK} {E:XK} (hN:N.length = 10) (h:spLRows K vs H Q E):rdLRows K { nx:=fun _ H'=>Q .non H',rt:=Q } (L2.start N vs) H:=by
  obtain ⟨L,pm,q1,q2,q3,as,R,kvs,ks,k,b,rfl,hL,hL26,S,W,hk,q⟩:=h
  have few:=W.few
  unfold rdLRows L2.start
  rw [hN]
  refine seq_set fun c hc=>?_
  and_intros
  refine mThi_go S rfl ⟨q2,kvs.map fun kv=>(kv.1,strV kv.2),rfl,by rw [← thD_eq]; exact S.thi,by rw [List.length_map]; omega,fun p2 zs hp2 hpm hle=>hc _ _ ?_⟩
  clear hc c
  have hkk:(kvs.map fun kv=>(kv.1,strV kv.2)).map (·.1) = kvs.map (·.1):=by rw [List.map_map]; rfl
  rw [hkk] at hpm
  have znd:=hpm.nodup_iff.mpr W.nd
  have zlt:=lt_of_sorted hle znd
  have s1:=Same.up H hp2 (o:=.lst (zs.map strV))
  have hZ:(upd H p2 (.lst (zs.map strV))) p2 = some (.lst (zs.map strV)):=upd_same
  generalize upd H p2 _ = H1 at s1 hZ ⊢
  have S1:=S.same s1
  have zl:zs.length ≤ 62:=by rw [hpm.length_eq,List.length_map]; omega
  have est:=stand_kn znd W.tnd fun m hm=>hpm.mem_iff.mpr (W.sub m hm)
  have q:=fun H' p ys n=>q H' p ys zs n
  simp only [List.set_cons_zero,List.set_cons_succ,List.replicate_succ,List.replicate_zero,List.map_cons,List.map_nil,List.cons_append,List.nil_append]
  refine seq_set fun c hc=>?_
  and_intros
  refine lenL_go (SqL.of hZ) (mTak_go S1 rfl ⟨q3,_,rfl,S1.tak,_,rfl,_,rfl,hc _ _ ?_⟩)
  clear hc c
  have em:(((zs.map strV).length:Nat):Int) - (((tkD ks).length:Nat):Int) = ((stand (knO zs ks):Nat):Int):=by
    rw [List.length_map,tkD,List.length_map]
    omega
  rw [em]
  have hm62:stand (knO zs ks) ≤ 62:=by omega
  generalize hmm:stand (knO zs ks) = m at q hm62 ⊢
  refine seq_set fun c hc=>?_
  and_intros
  refine hc _ _ ?_
  clear hc c
  refine seq_set fun c hc=>?_
  and_intros
  refine hc _ _ ?_
  clear hc c
  simp only [List.set_cons_zero,List.set_cons_succ]
  refine seq_any fun c hc=>?_
  suffices main:∀ n,IsRen L m n→n ≤ 62→c [some (.int L),some (.ref pm),some (.ref p2),some (.int m),some (.int (L ^ n:Nat)),some (.int n),none,none,none,none] H1 by
    refine while_of (LWInv L m pm p2 H1) 62 ⟨0,rfl,rfl,by decide,fun i h=>by omega,rfl⟩ ?_
    rintro x σ H' ⟨n,rfl,hx,hn,less,rfl⟩ R hgo hstop
    and_intros
    by_cases z:((L ^ n:Nat):Int) - 1 < (m:Int)
    · rw [decide_eq_true z]
      refine hgo _ ?_
      have hpow:n < 2 ^ n:=Nat.lt_two_pow_self
      have h2:2 ^ n ≤ L ^ n:=Nat.pow_le_pow_left hL n
      and_intros
      refine ⟨mulB_r (by omega) (by omega),62 - (n + 1),by omega,n + 1,rfl,rfl,by omega,fun i hi=>?_,by rw [Nat.pow_succ,Int.natCast_mul]; rfl⟩
      by_cases e:i = n
      · subst e; omega
      · exact less i (by omega)
    · rw [decide_eq_false z]
      exact hstop _ (main n ⟨by omega,less⟩ hn)
  intro n IR hn
  refine hc _ _ ?_
  clear hc c
  have q:=fun H' p ys=>q H' p ys n
  rw [← hmm] at q
  refine seq_set fun c hc=>?_
  and_intros
  refine ⟨by decide,fun p6 hp6=>hc _ _ ?_⟩
  clear hc c
  have s2:=Same.up H1 hp6 (o:=.lst [])
  have l2:(upd H1 p6 (.lst [])) p6 = some (.lst []):=upd_same
  generalize upd H1 p6 _ = H2 at s2 l2 ⊢
  have S2:=S1.same s2
  have f6:=s1.free1 hp6
  have nosub:∀ b ∈ [p6],H b = none:=fun b hb=>by rw [List.mem_singleton.mp hb]; exact f6
  refine seq_set fun c hc=>?_
  and_intros
  refine hc _ _ ?_
  clear hc c
  simp only [List.set_cons_zero,List.set_cons_succ]
  refine seq_any fun c hc=>?_
  have s12:=s1.trans s2
  refine for_l (a:=p2) (xs:=zs.map strV) (fun Q h=>⟨_,rfl,h⟩) (SqL.of (s2 _ _ hZ)) (LRInv L m n pm p2 p6 H2 zs ks) ⟨[],none,none,fun b o e _=>e,l2,rfl,trivial,rfl⟩ (fun i σ H' _ h=>?_) ?_ ?_
  · obtain ⟨_,_,_,k',_⟩:=h
    exact SqL.of (k' _ _ (s2 _ _ hZ) (fun z=>by rw [← List.mem_singleton.mp z] at hp6; rw [hZ] at hp6; cases hp6))
  · rintro i y σ H' hy ⟨ys,v8,v9,k',l',hl',pr',rfl⟩
    rw [List.getElem?_map] at hy
    obtain ⟨o,ho,rfl⟩:=Option.map_eq_some_iff.mp hy
    have hi:i < zs.length:=(List.getElem?_eq_some_iff.mp ho).1
    have sH:=same_keep s12 k' nosub
    have S':=S.same sH
    have etk:zs.take (i + 1) = zs.take i ++ [o]:=by rw [List.take_add_one,ho]; rfl
    have ekn:knO (zs.take (i + 1)) ks = knO (zs.take i) ks ++ [(o,!decide (o ∈ ks))]:=by rw [etk,knO,List.map_append]; rfl
    have eall:knO zs ks = knO (zs.take i) ks ++ knO (zs.drop i) ks:=by
      unfold knO
      rw [← List.map_append,List.take_append_drop]
    have edr:zs.drop i = o :: zs.drop (i + 1):=drop_get ho
    have app:∀ (w:Option (List Nat)) (g:Nat),rowsR (renL L m n) (stand (knO (zs.take i) ks)) [(o,!decide (o ∈ ks))] = [(o,w)]→stand (knO (zs.take (i + 1)) ks) = g→tDrop (tBM K "list" rAppend (tVar 6) (tCons (tTup (tCons (tVar 8) (tCons (tVar 9) tNil))) tNil)) { nx:=LRInv L m n pm p2 p6 H2 zs ks (i + 1),rt:=Q,ct:=LRInv L m n pm p2 p6 H2 zs ks (i + 1),bk:=c } [some (.int L),some (.ref pm),some (.ref p2),some (.int m),some (.int (L ^ n:Nat)),some (.int n),some (.ref p6),some (.int g),some (strV o),some (oV w)] H':=fun w g hw hg=>by
      and_intros
      refine ⟨.inl ⟨rfl,_,SqL.of l'⟩,by decide,fun t ht=>?_⟩
      have n6:p6 ≠ t:=fun z=>by subst z; rw [l'] at ht; cases ht
      refine append_go (by rw [upd_ne n6]; exact l') (by omega) ⟨_,_,_,(k'.upd (.inr ht)).upd (.inl List.mem_cons_self),upd_same,by rw [List.length_append,hl']; rfl,?_,by rw [hg]⟩
      rw [ekn,rowsR_app,Nat.zero_add,hw,List.map_append]
      refine (pr'.keep (keep_list ht l')).app ⟨⟨t,rfl,?_⟩,trivial⟩
      rw [upd_ne (Ne.symm n6),upd_same]
      rfl
    refine seq_set fun c1 hc1=>?_
    and_intros
    refine hc1 _ _ ?_
    clear hc1 c1
    simp only [List.set_cons_zero,List.set_cons_succ]
    refine seq_any fun c1 hc1=>?_
    simp? [strV]
    refine mTak_go S' rfl ⟨q3,_,rfl,DGet.k (k:=Key.inr (txt o)) S'.tak,_,rfl,?_⟩
    rw [val_tk]
    by_cases z:o ∈ ks
    · rw [if_neg (by simp [z])]
      refine hc1 _ _ (app none _ ?_ ?_)
      · simp [z,rowsR]
      · rw [ekn,stand_app]
        simp [z,stand]
    · rw [if_pos (by simp [z])]
      have hst:stand (knO (zs.take i) ks) < m:=by
        rw [← hmm,eall,stand_app,edr]
        unfold knO
        rw [List.map_cons,stand_cons]
        simp [z]
      have eg:=renL_get (L:=L) (n:=n) hst
      have hpw:L ^ n ≤ 1612:=by
        cases n with
        | zero=>rw [Nat.pow_zero]; decide
        | succ n=>
          have h1:=IR.less n (Nat.lt_succ_self n)
          rw [Nat.pow_succ]
          exact Nat.le_trans (Nat.mul_le_mul (Nat.le_trans h1 hm62) hL26) (by decide)
      have ew:(((stand (knO (zs.take i) ks):Nat):Int) + 1) * ((L ^ n:Nat):Int) / ((m:Int) + 1) = ((renW L m n (stand (knO (zs.take i) ks)):Nat):Int):=by
        unfold renW
        rw [Int.natCast_ediv,Int.natCast_mul]
        rfl
      refine ⟨mulB_r (by omega) (by omega),cdiv (by omega) (by omega),?_⟩
      rw [ew]
      refine ⟨L,_,n,rfl,by omega,hL26,by omega,hc1 _ _ ?_⟩
      refine app (some (mk L (renW L m n (stand (knO (zs.take i) ks))) n)) _ ?_ ?_
      · rw [show (!decide (o ∈ ks)) = true by simp [z],rowsR,rowsR,List.getD_eq_getElem?_getD,eg]
        rfl
      · rw [ekn,stand_app]
        simp [z,stand]
  · rintro σ H' ⟨ys,v8,v9,k',l',hl',pr',rfl⟩
    refine hc _ _ ?_
    and_intros
    rw [List.length_map,List.take_length] at pr'
    refine q H' p6 ys (same_keep s12 k' nosub) f6 ⟨zlt,hpm⟩ (by rw [hmm]; exact IR) l' ?_
    unfold renR
    rw [hmm]
    exact pr'
theorem thD_put {kvs:List (List Nat × List Nat)} {m:List Nat} (t:List Nat) (hm:¬ m ∈ kvs.map (·.1)):putK (thD kvs) (Key.inr (txt m)) (strV t) = thD (kvs ++ [(m,t)]):=by
  rw [putK_new _ (val_th m kvs hm)]
  unfold thD
  rw [List.map_append]
  rfl
theorem tkD_put {ks:List (List Nat)} {m:List Nat} (hm:¬ m ∈ ks):putK (tkD ks) (Key.inr (txt m)) (.bl true) = tkD (ks ++ [m]):=by
  rw [putK_new _ (by
    have:=val_tk m ks
    rw [decide_eq_false hm] at this
    cases w:valV (tkD ks) (Key.inr (txt m)) with
    | none=>rfl
    | some v=>rw [w] at this; cases this)]
  unfold tkD
  rw [List.map_append]
  rfl
theorem Ren.updD {H:Hp} {pr p:Addr} {as:List Addr} {R:List (List RwN)} {o:HO} {kvs:List (Key × V)} (A:Ren H pr as R) (hp:H p = some (.dK kvs)):Ren (upd H p o) pr as R:=by
  have k:Keeps [p] H (upd H p o):=Keeps.upd (fun b o e _=>e) (.inl List.mem_cons_self)
  refine ⟨by rw [upd_ne (fun z=>by subst z; have:=A.lst.symm.trans hp; cases this)]; exact A.lst,A.row.keep k (fun t ht ys e=>?_) (fun a ha z=>?_),A.out⟩
  · rw [List.mem_singleton.mp ht,hp] at e; cases e
  · obtain ⟨i,hi⟩:=List.getElem?_of_mem ha
    obtain ⟨_,_,_,w,_⟩:=A.row.get hi
    rw [List.mem_singleton.mp z,hp] at w; cases w
theorem Mdl.put {H:Hp} {pm q1 q2 q3:Addr} {as:List Addr} {R:List (List RwN)} {kvs:List (List Nat × List Nat)} {ks:List (List Nat)} (S:Mdl H pm q1 q2 q3 as R kvs ks) {m t:List Nat} (hm:¬ m ∈ kvs.map (·.1)):Mdl (upd H q2 (.dK (putK (thD kvs) (Key.inr (txt m)) (strV t)))) pm q1 q2 q3 as R (kvs ++ [(m,t)]) ks:=by
  rw [thD_put t hm]
  exact ⟨by rw [upd_ne S.n2]; exact S.top,S.ren.updD S.thi,upd_same,by rw [upd_ne (Ne.symm S.n23)]; exact S.tak,S.n23,S.n2,S.n3⟩
theorem Mdl.take {H:Hp} {pm q1 q2 q3:Addr} {as:List Addr} {R:List (List RwN)} {kvs:List (List Nat × List Nat)} {ks:List (List Nat)} (S:Mdl H pm q1 q2 q3 as R kvs ks) {m:List Nat} (hm:¬ m ∈ ks):Mdl (upd H q3 (.dK (putK (tkD ks) (Key.inr (txt m)) (.bl true)))) pm q1 q2 q3 as R kvs (ks ++ [m]):=by
  rw [tkD_put hm]
  exact ⟨by rw [upd_ne S.n3]; exact S.top,S.ren.updD S.tak,by rw [upd_ne S.n23]; exact S.thi,upd_same,S.n23,S.n2,S.n3⟩
theorem FirstB.one {kvs:List (List Nat × List Nat)} {lo v v':Option (List Nat)} (A:FirstB kvs lo v) (B:FirstB kvs lo v'):v = v':=by
  cases v with
  | none=>
    cases v' with
    | none=>rfl
    | some u=>
      obtain ⟨b1,b2,_⟩:=B.yes u rfl
      have:=A.no rfl u b1
      rw [b2] at this; cases this
  | some u=>
    obtain ⟨a1,a2,a3⟩:=A.yes u rfl
    cases v' with
    | none=>have:=B.no rfl u a1; rw [a2] at this; cases this
    | some u'=>
      obtain ⟨b1,b2,b3⟩:=B.yes u' rfl
      have h1:=a3 u' b1 b2
      have h2:=b3 u a1 a2
      rcases lt_three u u' with z | z | z
      · exact absurd z h2
      · rw [z]
      · exact absurd z h1
def headO (l:List (List Nat)):Option (List Nat):=match l with | []=>none | u :: _=>some u
theorem first_of {kvs:List (List Nat × List Nat)} {zs:List (List Nat)} {lo:Option (List Nat)} (A:AllK kvs zs):FirstB kvs lo (headO (zs.filter (isBeh lo))):=by
  refine ⟨fun e k hk=>?_,fun m e=>?_⟩
  · cases w:zs.filter (isBeh lo) with
    | nil=>
      have:=List.filter_eq_nil_iff.mp w k (A.perm.mem_iff.mpr hk)
      simpa using this
    | cons u r=>rw [w] at e; cases e
  · cases w:zs.filter (isBeh lo) with
    | nil=>rw [w] at e; cases e
    | cons u r=>
      rw [w] at e
      have e:u = m:=Option.some.inj e
      subst e
      have hu:u ∈ zs.filter (isBeh lo):=by rw [w]; exact List.mem_cons_self
      obtain ⟨h1,h2⟩:=List.mem_filter.mp hu
      refine ⟨A.perm.mem_iff.mp h1,h2,fun k hk hb z=>?_⟩
      have hk2:k ∈ zs.filter (isBeh lo):=List.mem_filter.mpr ⟨A.perm.mem_iff.mpr hk,hb⟩
      have up:=A.up.filter (isBeh lo)
      rw [w] at hk2 up
      rcases List.mem_cons.mp hk2 with rfl | hk2
      · exact List.lt_irrefl _ z
      · exact List.lt_irrefl _ (List.lt_trans z ((List.pairwise_cons.mp up).1 k hk2))
def spLPut (K:PySem.W.Frag):Sp:=fun vs H Q _=>∃ (ps pm q1 q2 q3:Addr) (as:List Addr) (R:List (List RwN)) (kvs:List (List Nat × List Nat)) (ks:List (List Nat)) (L h j k b:Nat) (i:Int) (t:List Nat) (zs:List (List Nat)) (v:Option (List Nat)) (n w:Nat) (m:List Nat),vs = [.ref ps,.int j,.ref pm,.int i,.str (txt t)]∧SqT K H ps [.int L,.int h]∧Hands L h j∧Mdl H pm q1 q2 q3 as R kvs ks∧Knows L kvs ks k b∧k ≤ 62∧b ≤ 998∧Shown kvs ks zs∧(0 ≤ i∧i ≤ zs.length)∧
  FirstB kvs (aheadO zs i.toNat) v∧Found L (endsL L h j) (aheadO zs i.toNat) v n w m∧∀ H',Keeps [q2] H H'→Mdl H' pm q1 q2 q3 as R (kvs ++ [(m,t)]) ks→Q (.str (txt m)) H'
def rdLPut (K:PySem.W.Frag):TS:=
    tSeq (tAsg (tCall spLShown [] E0 (tCons (tVar 2) tNil)) (gName 5))
      (tSeq (tAsg (tIf (tTest (tOp rGtI (tVar 3) (tC (.int 0)))) (tOp (rIxL K) (tVar 5) (tOp rSubI (tVar 3) (tC (.int 1)))) (tC .non)) (gName 6))
      (tSeq (tCompSet 7 (iList K (tCB rSortedD (tCons (tDGet (tVar 2) (tC (.str (txt [116,104,105,110,103,115])))) tNil))) [6] (tOr (tB (tIsN (tVar 1))) (tTest (tOp rLtS (tVar 1) (tVar 0)))) (tVar 0))
      (tSeq (tAsg (tCall spHBetween [] E0 (tCons (tOp (rIxT K) (tVar 0) (tC (.int 0))) (tCons (tOp (rIxT K) (tVar 0) (tC (.int 1))) (tCons (tVar 1) (tCons (tVar 6) (tCons (tIf (tTest (tOp rGtI (tCB (rLenL K) (tCons (tVar 7) tNil)) (tC (.int 0)))) (tOp (rIxL K) (tVar 7) (tC (.int 0))) (tC .non)) tNil)))))) (gName 8))
      (tSeq (sDPut (tDGet (tVar 2) (tC (.str (txt [116,104,105,110,103,115])))) (tVar 8) (tVar 4))
      (tRet (tVar 8))))))
theorem read_lput {K:PySem.W.Frag} {N:List Str} {vs:List V} {H:Hp} {Q:VK} {E:XK} (hN:N.length = 9) (h:spLPut K vs H Q E):rdLPut K { nx:=fun _ H'=>Q .non H',rt:=Q } (L2.start N vs) H:=by
  obtain ⟨ps,pm,q1,q2,q3,as,R,kvs,ks,L,h,j,k,b,i,t,zs,v,n,w,m,rfl,hps,D,S,W,hk,hb,Z,hi,FB,Fo,q⟩:=h
  have few:=W.few
  unfold rdLPut L2.start
  rw [hN]
  refine seq_set fun c hc=>?_
  and_intros
  refine ⟨pm,q1,q2,q3,as,R,kvs,ks,rfl,S,by omega,W.nd,fun H1 p5 zs' s1 f5 l5 Z'=>hc _ _ ?_⟩
  clear hc c
  cases Z.one Z'
  have S1:=S.same s1
  refine seq_set fun c hc=>?_
  and_intros
  have hlo:∀ l,aheadO zs i.toNat = some l→l ∈ kvs.map (·.1):=fun l e=>by
    unfold aheadO at e
    split at e
    · cases e
    · exact ((Z.mem l).mp (List.mem_of_getElem? e)).1
  have go:c (oV (aheadO zs i.toNat)) H1:=hc _ _ (by
    clear hc c
    generalize aheadO zs i.toNat = lo at FB Fo hlo ⊢
    simp only [List.set_cons_zero,List.set_cons_succ,List.replicate_succ,List.replicate_zero,List.map_cons,List.map_nil,List.cons_append,List.nil_append]
    refine seq_cset fun c hc=>?_
    refine comp_by fun R0 hR0=>?_
    simp? [iList]
    refine mThi_go S1 rfl ⟨q2,kvs.map fun kv=>(kv.1,strV kv.2),rfl,by rw [← thD_eq]; exact S1.thi,by rw [List.length_map]; omega,fun l as' hl hpm hle=>⟨l,rfl,⟨_,SqL.here⟩,?_⟩⟩
    rw [hR0]
    have hkk:(kvs.map fun kv=>(kv.1,strV kv.2)).map (·.1) = kvs.map (·.1):=by rw [List.map_map]; rfl
    rw [hkk] at hpm
    have AK:AllK kvs as':=⟨lt_of_sorted hle (hpm.nodup_iff.mpr W.nd),hpm⟩
    have s2:=Same.up H1 hl (o:=.lst (as'.map strV))
    have hZ:(upd H1 l (.lst (as'.map strV))) l = some (.lst (as'.map strV)):=upd_same
    generalize upd H1 l _ = H2 at s2 hZ ⊢
    have zl:as'.length ≤ 62:=by rw [hpm.length_eq,List.length_map]; omega
    refine comp_lst (K:=K) (xs:=as'.map strV) (σ:=[some (.ref ps),some (.int j),some (.ref pm),some (.int i),some (.str (txt t)),some (.ref p5),some (oV lo),none,none]) (fs:=[6]) (tt:=tOr (tB (tIsN (tVar 1))) (tTest (tOp rLtS (tVar 1) (tVar 0)))) (te:=tVar 0) (Q:=c) (fun i ys H'=>H' = H2∧ys = ((as'.take i).filter (isBeh lo)).map strV) ⟨rfl,rfl⟩ (fun i ys H' _ p=>by
      rw [p.1,p.2,List.length_map]
      refine ⟨SqL.of hZ,Nat.le_trans (List.length_filter_le _ _) ?_⟩
      rw [List.length_take]
      exact Nat.min_le_left _ _) (by rw [List.length_map,sizeLine_eq]; omega) ?_ ?_
    · rintro i x ys H' hx ⟨rfl,rfl⟩ W' hW
      rw [List.getElem?_map] at hx
      obtain ⟨o,ho,rfl⟩:=Option.map_eq_some_iff.mp hx
      have etk:as'.take (i + 1) = as'.take i ++ [o]:=by rw [List.take_add_one,ho]; rfl
      have yes:isBeh lo o = true→W' (((as'.take i).filter (isBeh lo)).map strV ++ [strV o]) H':=fun z=>hW _ _ ⟨rfl,by rw [etk,List.filter_append,List.map_append]; simp [z]⟩
      have no:isBeh lo o = false→W' (((as'.take i).filter (isBeh lo)).map strV) H':=fun z=>hW _ _ ⟨rfl,by rw [etk,List.filter_append]; simp [z]⟩
      cases lo with
      | none=>
        simp? [strV,oV]
        exact yes rfl
      | some l=>
        simp? [strV,oV]
        refine ⟨_,_,rfl,rfl,_,rfl,?_⟩
        by_cases z:l < o
        · rw [if_pos (decide_eq_true z)]
          exact yes (decide_eq_true z)
        · rw [if_neg (by rw [decide_eq_false z]; decide)]
          exact no (decide_eq_false z)
    rintro ys H' ⟨rfl,rfl⟩ p7 hp7
    refine hc _ _ ?_
    clear hc
    rw [List.length_map,List.take_length]
    have s3:=(s1.trans s2).new hp7 (o:=.lst ((as'.filter (isBeh lo)).map strV))
    have l7:(upd H' p7 (.lst ((as'.filter (isBeh lo)).map strV))) p7 = some (.lst ((as'.filter (isBeh lo)).map strV)):=upd_same
    generalize upd H' p7 _ = H3 at s3 l7 ⊢
    have ev:headO (as'.filter (isBeh lo)) = v:=(first_of AK).one FB
    obtain ⟨mo,hl1,hl2⟩:=FB.marks W (by omega) hlo
    have ok:=FB.ok
    obtain ⟨g1,g2,g3,g4⟩:=Fo.allH D mo ok
    have nm:=FB.new g3 g4
    simp only [List.set_cons_zero,List.set_cons_succ]
    refine seq_set fun c hc=>?_
    have bt:spHBetween [.int L,.int h,.int j,oV lo,oV v] H3 c E0:=⟨L,h,j,lo,v,rfl,D,mo,ok,fun H4 m' s4 hm'=>hc _ _ (by
      cases hm' n w m Fo
      clear hc c
      have s4:=s3.trans s4
      have S4:=S.same s4
      refine seq_any fun c hc=>?_
      simp? [sDPut]
      refine mThi_go S4 rfl ⟨q2,rfl,_,DPut.k (k:=Key.inr (txt m)) S4.thi (by rw [thD,List.length_map,sizeLine_eq]; omega),hc _ _ ?_⟩
      clear hc c
      and_intros
      exact q _ ((s4.keeps _).upd (.inl List.mem_cons_self)) (S4.put (t:=t) nm))⟩
    and_intros
    refine ixT_go (v:=.int L) (s3.tup hps) (by decide) rfl (ixT_go (v:=.int h) (s3.tup hps) (by decide) rfl ?_)
    refine lenL_go (SqL.of l7) ⟨_,rfl,?_⟩
    rw [List.length_map]
    cases ew:as'.filter (isBeh lo) with
    | nil=>
      rw [ew] at ev
      have ev:v = none:=ev.symm
      rw [ev] at bt
      rw [if_neg (by simp)]
      exact bt
    | cons u r=>
      rw [ew] at ev l7
      have ev:v = some u:=ev.symm
      rw [ev] at bt
      rw [if_pos (by simp only [List.length_cons]; omega)]
      exact ixL_go (v:=strV u) (SqL.of l7) (by decide) rfl bt)
  clear hc
  by_cases h0:0 < i
  · rw [if_pos h0]
    obtain ⟨o,ho⟩:=some_at (l:=zs) (i:=i.toNat - 1) (by omega)
    have e:aheadO zs i.toNat = some o:=by unfold aheadO; rw [if_neg (by omega)]; exact ho
    rw [e] at go
    exact ixL_go (v:=strV o) (SqL.of l5) (by omega) (by rw [show (i - 1).toNat = i.toNat - 1 by omega,List.getElem?_map,ho]; rfl) go
  · rw [if_neg h0]
    have e:aheadO zs i.toNat = none:=by unfold aheadO; rw [if_pos (by omega)]
    rw [e] at go
    exact go
def someT:List (List Nat):=[[97],[116,97,107,101,110],[114,101,110,101,119,97,108],[48],[122,57],[97,98,99,100,101,102,103,104,105,106,107,108],[98],[55]]
theorem someT_ok:∀ t ∈ someT,Thing t∧t.length ≤ 12:=by
  intro t ht
  simp only [someT,List.mem_cons,List.not_mem_nil,or_false] at ht
  rcases ht with rfl | rfl | rfl | rfl | rfl | rfl | rfl | rfl <;> exact ⟨⟨by decide,by decide,by decide⟩,by decide⟩
def spHThing (K:PySem.W.Frag):Sp:=fun vs H Q _=>∃ (a:Addr) (ns:List Int) (k:Int),vs = [.ref a,.int k]∧SqL K H a (ns.map V.int)∧ns.length ≤ 63∧0 ≤ k∧k ≤ 10000∧∀ H' t,Same H H'→Thing t→t.length ≤ 12→Q (.str (txt t)) H'
def rdHThing (K:PySem.W.Frag):TS:=
    tSeq (tAsg (tLst (tCons (tC (.str (txt [97]))) (tCons (tC (.str (txt [116,97,107,101,110]))) (tCons (tC (.str (txt [114,101,110,101,119,97,108]))) (tCons (tC (.str (txt [48]))) (tCons (tC (.str (txt [122,57]))) (tCons (tC (.str (txt [97,98,99,100,101,102,103,104,105,106,107,108]))) (tCons (tC (.str (txt [98]))) (tCons (tC (.str (txt [55]))) tNil))))))))) (gName 2))
      (tRet (tOp (rIxL K) (tVar 2) (tCall (spDraw K) [] E0 (tCons (tVar 0) (tCons (tVar 1) (tCons (tC (.int 8)) tNil))))))
theorem read_hthing {K:PySem.W.Frag} {N:List Str} {vs:List V} {H:Hp} {Q:VK} {E:XK} (hN:N.length = 3) (h:spHThing K vs H Q E):rdHThing K { nx:=fun _ H'=>Q .non H',rt:=Q } (L2.start N vs) H:=by
  obtain ⟨sc,ns,k,rfl,hS,hl,hk0,hk1,q⟩:=h
  unfold rdHThing L2.start
  rw [hN]
  refine seq_set fun c hc=>?_
  and_intros
  refine ⟨by decide,fun p hp=>hc _ _ ?_⟩
  clear hc c
  have s1:=Same.up (o:=HO.lst (someT.map strV)) H hp
  have l1:(upd H p (.lst (someT.map strV))) p = some (.lst (someT.map strV)):=upd_same
  show tRet _ _ _ (upd H p (.lst (someT.map strV)))
  generalize upd H p _ = H1 at s1 l1 ⊢
  and_intros
  refine ⟨sc,ns,_,_,rfl,s1.seq hS,hl,hk0,by omega,by decide,fun r h0 h1=>?_⟩
  obtain ⟨t,ht⟩:=some_at (l:=someT) (i:=r.toNat) (by simp only [someT,List.length_cons,List.length_nil]; omega)
  obtain ⟨b1,b2⟩:=someT_ok t (List.mem_of_getElem? ht)
  exact ixL_go (v:=strV t) (SqL.of l1) h0 (by rw [List.getElem?_map,ht]; rfl) (q _ t s1 b1 b2)
end L2
namespace K60
open PySem PySem.Spec PyProof.Rows L2 MM
def top (i:Nat):Stmt:=PySem.Challenge.pw_shelfmark_k60_a_hand_alone.main.body.getD i (.Pass ⟨0,0,0,0⟩)
abbrev s_p25:Stmt:=top 10
abbrev s_p43:Stmt:=top 11
abbrev s_p31:Stmt:=top 12
abbrev s_p51:Stmt:=top 13
abbrev s_p38:Stmt:=top 14
abbrev s_p30:Stmt:=top 16
abbrev s_p27:Stmt:=top 17
abbrev s_p32:Stmt:=top 18
abbrev s_p41:Stmt:=top 19
abbrev s_p42:Stmt:=top 20
abbrev s_p40:Stmt:=top 21
abbrev s_p29:Stmt:=top 22
abbrev s_p47:Stmt:=top 23
abbrev s_p39:Stmt:=top 24
abbrev s_p35:Stmt:=top 26
abbrev s_p36:Stmt:=top 27
abbrev s_p50:Stmt:=top 28
abbrev s_p37:Stmt:=top 29
abbrev s_p48:Stmt:=top 31
abbrev s_p46:Stmt:=top 32
abbrev s_p45:Stmt:=top 33
abbrev s_p44:Stmt:=top 35
abbrev s_p49:Stmt:=top 37
abbrev s_p33:Stmt:=top 41
abbrev s_p28:Stmt:=top 42
abbrev s_p26:Stmt:=top 43
abbrev s_p24:Stmt:=top 45
abbrev s_p0:Stmt:=inClass (top 46) 0
abbrev s_p3:Stmt:=inClass (top 46) 4
abbrev s_p2:Stmt:=inClass (top 46) 10
abbrev s_p5:Stmt:=inClass (top 46) 1
abbrev s_p8:Stmt:=inClass (top 46) 2
abbrev s_p6:Stmt:=inClass (top 46) 3
abbrev s_p9:Stmt:=inClass (top 46) 5
abbrev s_p1:Stmt:=inClass (top 46) 6
abbrev s_p4:Stmt:=inClass (top 46) 7
abbrev s_p7:Stmt:=inClass (top 46) 8
abbrev s_draw:Stmt:=top 48
abbrev s_size:Stmt:=top 49
abbrev s_whole:Stmt:=top 50
abbrev s_mark:Stmt:=top 51
abbrev s_some:Stmt:=top 52
abbrev s_between:Stmt:=top 53
abbrev s_rows:Stmt:=top 54
abbrev s_shown:Stmt:=top 55
abbrev s_state:Stmt:=top 56
abbrev s_put:Stmt:=top 57
abbrev s_thing:Stmt:=top 58
abbrev s_is_told:Stmt:=top 59
abbrev s_deed:Stmt:=top 60
abbrev s_law:Stmt:=top 61
structure Ad where
  (k_Hand c_NoHand c_NoLetters c_NoPlace c_NoRoom c_NoThing f_p25 f_p43 f_p31 f_p51 f_p38 f_p30 f_p27 f_p32 f_p41 f_p42 f_p40 f_p29 f_p47 f_p39 f_p35 f_p36 f_p50 f_p37 f_p48 f_p46 f_p45 f_p44 f_p49 f_p33 f_p28 f_p26 f_p24 f_p0 f_p3 f_p2 f_p5 f_p8 f_p6 f_p9 f_p1 f_p4 f_p7 f_draw f_size f_whole f_mark f_some f_between f_rows f_shown f_state f_put f_thing f_is_told f_deed f_law:Addr)
  (fd_p25 fd_p43 fd_p31 fd_p51 fd_p38 fd_p30 fd_p27 fd_p32 fd_p41 fd_p42 fd_p40 fd_p29 fd_p47 fd_p39 fd_p35 fd_p36 fd_p50 fd_p37 fd_p48 fd_p46 fd_p45 fd_p44 fd_p49 fd_p33 fd_p28 fd_p26 fd_p24 fd_p0 fd_p3 fd_p2 fd_p5 fd_p8 fd_p6 fd_p9 fd_p1 fd_p4 fd_p7 fd_draw fd_size fd_whole fd_mark fd_some fd_between fd_rows fd_shown fd_state fd_put fd_thing fd_is_told fd_deed fd_law:FuncData)
structure Tx (K:PySem.W.Frag) (mg:Str→Option Value) (a:Ad):Prop where
  n_all:mg "all" = none
  n_dict:mg "dict" = none
  n_int:mg "int" = none
  n_isinstance:mg "isinstance" = none
  n_len:mg "len" = none
  n_list:mg "list" = none
  n_min:mg "min" = none
  n_range:mg "range" = none
  n_sorted:mg "sorted" = none
  n_tuple:mg "tuple" = none
  c_SMALL:∃ t,mg "SMALL" = some (.str "abcdefghijklmnopqrstuvwxyz" t)
  c_THING_SIGNS:∃ t,mg "THING_SIGNS" = some (.str "abcdefghijklmnopqrstuvwxyz0123456789" t)
  c_LONGEST_THING:∃ t,mg "LONGEST_THING" = some (.int 12 t)
  gk_Hand:mg "Hand" = some (.ref a.k_Hand)
  K_Hand:Cls K a.k_Hand
  I_Hand:Mk K a.k_Hand a.f_p0
  n_Hand_letters:NoAttr K a.k_Hand "letters"
  n_Hand_hands:NoAttr K a.k_Hand "hands"
  n_Hand_own_number:NoAttr K a.k_Hand "own_number"
  n_Hand_renewals:NoAttr K a.k_Hand "renewals"
  n_Hand_thing_of:NoAttr K a.k_Hand "thing_of"
  n_Hand_taken:NoAttr K a.k_Hand "taken"
  m_NoHand:mg "NoHand" = some (.ref a.c_NoHand)
  x_NoHand : PySem.W.excIn K a.c_NoHand [.type "ValueError", .type "Exception", .type "BaseException", .type "object"] "ValueError.__new__" = true
  m_NoLetters:mg "NoLetters" = some (.ref a.c_NoLetters)
  x_NoLetters : PySem.W.excIn K a.c_NoLetters [.type "ValueError", .type "Exception", .type "BaseException", .type "object"] "ValueError.__new__" = true
  m_NoPlace:mg "NoPlace" = some (.ref a.c_NoPlace)
  x_NoPlace : PySem.W.excIn K a.c_NoPlace [.type "ValueError", .type "Exception", .type "BaseException", .type "object"] "ValueError.__new__" = true
  m_NoRoom:mg "NoRoom" = some (.ref a.c_NoRoom)
  x_NoRoom : PySem.W.excIn K a.c_NoRoom [.type "ValueError", .type "Exception", .type "BaseException", .type "object"] "ValueError.__new__" = true
  m_NoThing:mg "NoThing" = some (.ref a.c_NoThing)
  x_NoThing : PySem.W.excIn K a.c_NoThing [.type "ValueError", .type "Exception", .type "BaseException", .type "object"] "ValueError.__new__" = true
  g_p25:mg "ask_letters" = some (.ref a.f_p25)
  F_p25:Fun K "ask_letters" "ask_letters" s_p25 a.f_p25 a.fd_p25
  b_p25 : Binds K a.fd_p25 ["letters", "hands"] []
  g_p43:mg "power" = some (.ref a.f_p43)
  F_p43:Fun K "power" "power" s_p43 a.f_p43 a.fd_p43
  b_p43 : Binds K a.fd_p43 ["letters", "long"] []
  g_p31:mg "figure_at" = some (.ref a.f_p31)
  F_p31:Fun K "figure_at" "figure_at" s_p31 a.f_p31 a.fd_p31
  b_p31 : Binds K a.fd_p31 ["mark", "place"] []
  g_p51:mg "whole_of" = some (.ref a.f_p51)
  F_p51:Fun K "whole_of" "whole_of" s_p51 a.f_p51 a.fd_p51
  b_p51 : Binds K a.fd_p51 ["letters", "mark", "long"] []
  g_p38:mg "mark_of" = some (.ref a.f_p38)
  F_p38:Fun K "mark_of" "mark_of" s_p38 a.f_p38 a.fd_p38
  b_p38 : Binds K a.fd_p38 ["letters", "number", "long"] []
  g_p30:mg "ends_of" = some (.ref a.f_p30)
  F_p30:Fun K "ends_of" "ends_of" s_p30 a.f_p30 a.fd_p30
  b_p30 : Binds K a.fd_p30 ["letters", "hands", "hand"] []
  g_p27:mg "ask_room" = some (.ref a.f_p27)
  F_p27:Fun K "ask_room" "ask_room" s_p27 a.f_p27 a.fd_p27
  b_p27 : Binds K a.fd_p27 ["low", "high"] []
  g_p32:mg "high_whole_of" = some (.ref a.f_p32)
  F_p32:Fun K "high_whole_of" "high_whole_of" s_p32 a.f_p32 a.fd_p32
  b_p32 : Binds K a.fd_p32 ["letters", "high", "long"] []
  g_p41:mg "owned_below" = some (.ref a.f_p41)
  F_p41:Fun K "owned_below" "owned_below" s_p41 a.f_p41 a.fd_p41
  b_p41 : Binds K a.fd_p41 ["letters", "ends", "number"] []
  g_p42:mg "owned_up_to_low" = some (.ref a.f_p42)
  F_p42:Fun K "owned_up_to_low" "owned_up_to_low" s_p42 a.f_p42 a.fd_p42
  b_p42 : Binds K a.fd_p42 ["letters", "ends", "low_whole"] []
  g_p40:mg "owned_ahead_of_high" = some (.ref a.f_p40)
  F_p40:Fun K "owned_ahead_of_high" "owned_ahead_of_high" s_p40 a.f_p40 a.fd_p40
  b_p40 : Binds K a.fd_p40 ["letters", "ends", "high", "high_whole", "long", "beginnings"] []
  g_p29:mg "counted_at" = some (.ref a.f_p29)
  F_p29:Fun K "counted_at" "counted_at" s_p29 a.f_p29 a.fd_p29
  b_p29 : Binds K a.fd_p29 ["letters", "ends", "low", "high", "long", "beginnings"] []
  g_p47:mg "room_at" = some (.ref a.f_p47)
  F_p47:Fun K "room_at" "room_at" s_p47 a.f_p47 a.fd_p47
  b_p47 : Binds K a.fd_p47 ["letters", "hands", "hand", "low", "high", "long"] []
  g_p39:mg "nth_mark" = some (.ref a.f_p39)
  F_p39:Fun K "nth_mark" "nth_mark" s_p39 a.f_p39 a.fd_p39
  b_p39 : Binds K a.fd_p39 ["letters", "hands", "hand", "low", "high", "long", "number"] []
  g_p35:mg "least_counted" = some (.ref a.f_p35)
  F_p35:Fun K "least_counted" "least_counted" s_p35 a.f_p35 a.fd_p35
  b_p35 : Binds K a.fd_p35 ["letters", "ends", "low", "high", "many", "beginnings"] []
  g_p36:mg "least_long" = some (.ref a.f_p36)
  F_p36:Fun K "least_long" "least_long" s_p36 a.f_p36 a.fd_p36
  b_p36 : Binds K a.fd_p36 ["letters", "hands", "hand", "low", "high", "many"] []
  g_p50:mg "told_number" = some (.ref a.f_p50)
  F_p50:Fun K "told_number" "told_number" s_p50 a.f_p50 a.fd_p50
  b_p50 : Binds K a.fd_p50 ["low", "high", "many"] []
  g_p37:mg "mark_between" = some (.ref a.f_p37)
  F_p37:Fun K "mark_between" "mark_between" s_p37 a.f_p37 a.fd_p37
  b_p37 : Binds K a.fd_p37 ["letters", "hands", "hand", "low", "high"] []
  g_p48:mg "spread" = some (.ref a.f_p48)
  F_p48:Fun K "spread" "spread" s_p48 a.f_p48 a.fd_p48
  b_p48 : Binds K a.fd_p48 ["many", "whole"] []
  g_p46:mg "renewed_long" = some (.ref a.f_p46)
  F_p46:Fun K "renewed_long" "renewed_long" s_p46 a.f_p46 a.fd_p46
  b_p46 : Binds K a.fd_p46 ["letters", "many"] []
  g_p45:mg "renewed" = some (.ref a.f_p45)
  F_p45:Fun K "renewed" "renewed" s_p45 a.f_p45 a.fd_p45
  b_p45 : Binds K a.fd_p45 ["letters", "many"] []
  g_p44:mg "renewal_rows" = some (.ref a.f_p44)
  F_p44:Fun K "renewal_rows" "renewal_rows" s_p44 a.f_p44 a.fd_p44
  b_p44 : Binds K a.fd_p44 ["letters", "known"] []
  g_p49:mg "state_of" = some (.ref a.f_p49)
  F_p49:Fun K "state_of" "state_of" s_p49 a.f_p49 a.fd_p49
  b_p49 : Binds K a.fd_p49 ["letters", "hands", "renewals", "things", "taken"] []
  g_p33:mg "is_thing" = some (.ref a.f_p33)
  F_p33:Fun K "is_thing" "is_thing" s_p33 a.f_p33 a.fd_p33
  b_p33:Binds K a.fd_p33 ["text"] []
  g_p28:mg "ask_thing" = some (.ref a.f_p28)
  F_p28:Fun K "ask_thing" "ask_thing" s_p28 a.f_p28 a.fd_p28
  b_p28:Binds K a.fd_p28 ["text"] []
  g_p26:mg "ask_place" = some (.ref a.f_p26)
  F_p26:Fun K "ask_place" "ask_place" s_p26 a.f_p26 a.fd_p26
  b_p26 : Binds K a.fd_p26 ["place", "many"] []
  g_p24:mg "ask_hand" = some (.ref a.f_p24)
  F_p24:Fun K "ask_hand" "ask_hand" s_p24 a.f_p24 a.fd_p24
  b_p24 : Binds K a.fd_p24 ["number", "hands"] []
  M_p0:Meth K a.k_Hand "__init__" a.f_p0
  F_p0:Fun K "__init__" "Hand.__init__" s_p0 a.f_p0 a.fd_p0
  b_p0 : Binds K a.fd_p0 ["self", "letters", "hands", "number"] []
  M_p3:Meth K a.k_Hand "marks" a.f_p3
  F_p3:Fun K "marks" "Hand.marks" s_p3 a.f_p3 a.fd_p3
  b_p3:Binds K a.fd_p3 ["self"] []
  M_p2:Meth K a.k_Hand "first_behind" a.f_p2
  F_p2:Fun K "first_behind" "Hand.first_behind" s_p2 a.f_p2 a.fd_p2
  b_p2 : Binds K a.fd_p2 ["self", "low"] []
  M_p5:Meth K a.k_Hand "put" a.f_p5
  F_p5:Fun K "put" "Hand.put" s_p5 a.f_p5 a.fd_p5
  b_p5 : Binds K a.fd_p5 ["self", "place", "thing"] []
  M_p8:Meth K a.k_Hand "take" a.f_p8
  F_p8:Fun K "take" "Hand.take" s_p8 a.f_p8 a.fd_p8
  b_p8 : Binds K a.fd_p8 ["self", "place"] []
  M_p6:Meth K a.k_Hand "renew" a.f_p6
  F_p6:Fun K "renew" "Hand.renew" s_p6 a.f_p6 a.fd_p6
  b_p6:Binds K a.fd_p6 ["self"] []
  M_p9:Meth K a.k_Hand "things" a.f_p9
  F_p9:Fun K "things" "Hand.things" s_p9 a.f_p9 a.fd_p9
  b_p9:Binds K a.fd_p9 ["self"] []
  M_p1:Meth K a.k_Hand "age" a.f_p1
  F_p1:Fun K "age" "Hand.age" s_p1 a.f_p1 a.fd_p1
  b_p1:Binds K a.fd_p1 ["self"] []
  M_p4:Meth K a.k_Hand "number" a.f_p4
  F_p4:Fun K "number" "Hand.number" s_p4 a.f_p4 a.fd_p4
  b_p4:Binds K a.fd_p4 ["self"] []
  M_p7:Meth K a.k_Hand "state" a.f_p7
  F_p7:Fun K "state" "Hand.state" s_p7 a.f_p7 a.fd_p7
  b_p7:Binds K a.fd_p7 ["self"] []
  g_draw:mg "_law_draw" = some (.ref a.f_draw)
  F_draw:Fun K "_law_draw" "_law_draw" s_draw a.f_draw a.fd_draw
  b_draw : Binds K a.fd_draw ["_law_script", "_law_k", "_law_many"] []
  g_size:mg "_law_size" = some (.ref a.f_size)
  F_size:Fun K "_law_size" "_law_size" s_size a.f_size a.fd_size
  b_size:Binds K a.fd_size ["_law_script"] []
  g_whole:mg "_law_whole" = some (.ref a.f_whole)
  F_whole:Fun K "_law_whole" "_law_whole" s_whole a.f_whole a.fd_whole
  b_whole : Binds K a.fd_whole ["_law_letters", "_law_mark_here", "_law_long"] []
  g_mark:mg "_law_mark" = some (.ref a.f_mark)
  F_mark:Fun K "_law_mark" "_law_mark" s_mark a.f_mark a.fd_mark
  b_mark : Binds K a.fd_mark ["_law_letters", "_law_number", "_law_long"] []
  g_some:mg "_law_some" = some (.ref a.f_some)
  F_some:Fun K "_law_some" "_law_some" s_some a.f_some a.fd_some
  b_some : Binds K a.fd_some ["_law_letters", "_law_hands", "_law_hand", "_law_low", "_law_high", "_law_long"] []
  g_between:mg "_law_between" = some (.ref a.f_between)
  F_between:Fun K "_law_between" "_law_between" s_between a.f_between a.fd_between
  b_between : Binds K a.fd_between ["_law_letters", "_law_hands", "_law_hand", "_law_low", "_law_high"] []
  g_rows:mg "_law_rows" = some (.ref a.f_rows)
  F_rows:Fun K "_law_rows" "_law_rows" s_rows a.f_rows a.fd_rows
  b_rows : Binds K a.fd_rows ["_law_letters", "_law_model"] []
  g_shown:mg "_law_shown" = some (.ref a.f_shown)
  F_shown:Fun K "_law_shown" "_law_shown" s_shown a.f_shown a.fd_shown
  b_shown:Binds K a.fd_shown ["_law_model"] []
  g_state:mg "_law_state" = some (.ref a.f_state)
  F_state:Fun K "_law_state" "_law_state" s_state a.f_state a.fd_state
  b_state : Binds K a.fd_state ["_law_size_here", "_law_model"] []
  g_put:mg "_law_put" = some (.ref a.f_put)
  F_put:Fun K "_law_put" "_law_put" s_put a.f_put a.fd_put
  b_put : Binds K a.fd_put ["_law_size_here", "_law_hand", "_law_model", "_law_place", "_law_thing_here"] []
  g_thing:mg "_law_thing" = some (.ref a.f_thing)
  F_thing:Fun K "_law_thing" "_law_thing" s_thing a.f_thing a.fd_thing
  b_thing : Binds K a.fd_thing ["_law_script", "_law_k"] []
  g_is_told:mg "_law_is_told" = some (.ref a.f_is_told)
  F_is_told:Fun K "_law_is_told" "_law_is_told" s_is_told a.f_is_told a.fd_is_told
  b_is_told : Binds K a.fd_is_told ["_law_hand", "_law_size_here", "_law_number", "_law_model"] []
  g_deed:mg "_law_deed" = some (.ref a.f_deed)
  F_deed:Fun K "_law_deed" "_law_deed" s_deed a.f_deed a.fd_deed
  b_deed : Binds K a.fd_deed ["_law_script", "_law_k", "_law_size_here", "_law_hand", "_law_number", "_law_model"] []
  g_law:mg "law" = some (.ref a.f_law)
  F_law:Fun K "law" "law" s_law a.f_law a.fd_law
  b_law:Binds K a.fd_law ["_law_script"] []
end K60
namespace K60
open PySem PySem.Spec PyProof.Rows L2 MM
def spLaw (K:PySem.W.Frag):Sp:=fun vs H Q _=>∃ (a:Addr) (ns:List Int),vs = [.ref a]∧SqL K H a (ns.map V.int)∧ns.length ≤ 63∧∀ H',Q (.bl true) H'
def spSize (K:PySem.W.Frag):Sp:=fun vs H Q _=>∃ (a:Addr) (ns:List Int),vs = [.ref a]∧SqL K H a (ns.map V.int)∧ns.length ≤ 63∧∀ H' p (L h:Nat),Same H H'→H' p = some (.tup [.int L,.int h])→2 ≤ L→L ≤ 26→1 ≤ h→h + 1 ≤ L→Q (.ref p) H'
def RowsFine (R:List (List RwN)):Prop:=∀ r ∈ R,r.length ≤ 62∧∀ y ∈ r,PyData.strOk (txt y.1) = true∧∀ z,y.2 = some z→PyData.strOk (txt z) = true
structure Both (C:Addr) (H:Hp) (x dx pr pt pk:Addr) (as:List Addr) (pm q1 q2 q3:Addr) (bs:List Addr) (L h j:Nat) (R:List (List RwN)) (kvs:List (List Nat × List Nat)) (ks:List (List Nat)) (k b:Nat):Prop where
  S:Hnd C H x dx pr pt pk L h j kvs ks
  A:Ren H pr as R
  M:Mdl H pm q1 q2 q3 bs R kvs ks
  D:Hands L h j
  W:Knows L kvs ks k b
  F:RowsFine R
  n1:pt ≠ q2
  n2:pt ≠ q3
  n3:pk ≠ q2
  n4:pk ≠ q3
  n5:pm ≠ pt
  n6:pm ≠ pk
  n7:pr ≠ q1
  n8:¬ pr ∈ bs
  n9:¬ q1 ∈ as
theorem Both.same {C:Addr} {H H':Hp} {x dx pr pt pk:Addr} {as:List Addr} {pm q1 q2 q3:Addr} {bs:List Addr} {L h j:Nat} {R:List (List RwN)} {kvs:List (List Nat × List Nat)} {ks:List (List Nat)} {k b:Nat} (B:Both C H x dx pr pt pk as pm q1 q2 q3 bs L h j R kvs ks k b) (s:Same H H'):Both C H' x dx pr pt pk as pm q1 q2 q3 bs L h j R kvs ks k b:=
  ⟨B.S.same s,B.A.same s,B.M.same s,B.D,B.W,B.F,B.n1,B.n2,B.n3,B.n4,B.n5,B.n6,B.n7,B.n8,B.n9⟩
def spIsTold (K:PySem.W.Frag) (C:Addr):Sp:=fun vs H Q _=>∃ (x dx pr pt pk:Addr) (as:List Addr) (ps pm q1 q2 q3:Addr) (bs:List Addr) (L h j:Nat) (R:List (List RwN)) (kvs:List (List Nat × List Nat)) (ks:List (List Nat)) (k b:Nat),vs = [.ref x,.ref ps,.int j,.ref pm]∧H ps = some (.tup [.int L,.int h])∧Both C H x dx pr pt pk as pm q1 q2 q3 bs L h j R kvs ks k b∧k ≤ 62∧R.length ≤ 100∧∀ H',Same H H'→Q (.bl true) H'
def spDeed (K:PySem.W.Frag) (C:Addr):Sp:=fun vs H Q _=>∃ (sc:Addr) (ns:List Int) (d:Nat) (x dx pr pt pk:Addr) (as:List Addr) (ps pm q1 q2 q3:Addr) (bs:List Addr) (L h j:Nat) (R:List (List RwN)) (kvs:List (List Nat × List Nat)) (ks:List (List Nat)) (k b:Nat),vs = [.ref sc,.int d,.ref ps,.ref x,.int j,.ref pm]∧SqL K H sc (ns.map V.int)∧ns.length ≤ 63∧d ≤ 1000∧H ps = some (.tup [.int L,.int h])∧
  Both C H x dx pr pt pk as pm q1 q2 q3 bs L h j R kvs ks k b∧k ≤ 61∧b ≤ 500∧k ≤ b∧R.length ≤ 99∧
  ∀ H' pt' pk' as' q2' q3' bs' R' kvs' ks' k' b',Keeps [x,pr,pt,pk,pm,q1,q2,q3] H H'→(∀ o ∈ [pt',pk',q2',q3'],o ∈ [pt,pk,q2,q3] ∨ H o = none)→Both C H' x dx pr pt' pk' as' pm q1 q2' q3' bs' L h j R' kvs' ks' k' b'→k' ≤ k + 1→b' ≤ b + 1→k' ≤ b'→R'.length ≤ R.length + 1→Q (.bl true) H'
section
variable {P:Program} {w:World} {K:PySem.W.Frag} {mg:Str→Option Value} {base:Heap} {a:Ad} {f:Addr} {cdv:Value} {A:Around} {outer:List Env} {s:Shared} {H:Hp} {E:XK}
theorem sc_p25 : FnScope ["letters", "hands"] ["letters", "hands"] (defScope s_p25) := ⟨rfl, rfl, rfl, by decide +kernel, rfl, by decide +kernel, by decide +kernel⟩
def rd_p25 (K:PySem.W.Frag) (a:Ad) (E:XK):TS:=
    rdAskL a.c_NoLetters E [108,101,116,116,101,114,115,32,109,117,115,116,32,98,101,32,102,114,111,109,32,50,32,116,111,32,50,54] [104,97,110,100,115,32,109,117,115,116,32,98,101,32,102,114,111,109,32,49,32,116,111,32,111,110,101,32,108,101,115,115,32,116,104,97,110,32,108,101,116,116,101,114,115]
theorem pr_p25 (T:Tx K mg a) (hr:Room 0 (A.deeper (envOfC "ask_letters" (defScope s_p25) s.heap.objs.size f cdv))) :
    QSs (cxOf (CX1 P w) P w K mg base ["letters", "hands"] "ask_letters" (defScope s_p25) f cdv A outer s H E) (defBody s_p25) (rd_p25 K a E) := by
  delta rd_p25 rdAskL
  exact kss_cons (ks_if (kt_w (kw_or (kt_cmp op_lt (kv 0) ke_int) (kw_or1 (kt_cmp op_gt (kv 0) (ke_callB call_lenS T.n_len PyProof.Rows.Boot.«len» (ka_cons (ke_gstr T.c_SMALL small_eq) ka_nil)))))) (kss_one (ks_raise PySem.F.excBase_ValueError T.x_NoLetters T.m_NoLetters (ka_cons (ke_txt (by kernel_rfl)) ka_nil) (fun _ _ _ _ _ _ _ I m q=>made_def I m q))) (kss_nil))
      (kss_one (ks_if (kt_w (kw_or (kt_cmp op_lt (kv 1) ke_int) (kw_or1 (kt_cmp op_ge (kv 1) (kv 0))))) (kss_one (ks_raise PySem.F.excBase_ValueError T.x_NoLetters T.m_NoLetters (ka_cons (ke_txt (by kernel_rfl)) ka_nil) (fun _ _ _ _ _ _ _ I m q=>made_def I m q))) (kss_nil)))
theorem sc_p43 : FnScope ["letters", "long", "product", "step"] ["letters", "long"] (defScope s_p43) := ⟨rfl, rfl, rfl, by decide +kernel, rfl, by decide +kernel, by decide +kernel⟩
def rd_p43 (K:PySem.W.Frag) (a:Ad):TS:=
    rdPower
theorem pr_p43 (T:Tx K mg a) (hr:Room 0 (A.deeper (envOfC "power" (defScope s_p43) s.heap.objs.size f cdv))) :
    QSs (cxOf CX0 P w K mg base ["letters", "long", "product", "step"] "power" (defScope s_p43) f cdv A outer s H E).nox (defBody s_p43) (rd_p43 K a) := by
  delta rd_p43 rdPower
  exact kss_cons (ks_set (i:=2) sc_p43.nd ke_int)
      (kss_cons (ks_for (ki_range1 T.n_range (ka_cons (kv 1) ka_nil)) (kg_name (i:=3) sc_p43.nd) (kss_one (ks_set (i:=2) sc_p43.nd (ke_op op_mulB (kv 2) (kv 0)))))
      (kss_one (ks_ret (kv 2))))
theorem sc_p31 : FnScope ["mark", "place"] ["mark", "place"] (defScope s_p31) := ⟨rfl, rfl, rfl, by decide +kernel, rfl, by decide +kernel, by decide +kernel⟩
def rd_p31 (K:PySem.W.Frag) (a:Ad):TS:=
    rdFig K
theorem pr_p31 (T:Tx K mg a) (hr:Room 0 (A.deeper (envOfC "figure_at" (defScope s_p31) s.heap.objs.size f cdv))) :
    QSs (cxOf CX0 P w K mg base ["mark", "place"] "figure_at" (defScope s_p31) f cdv A outer s H E).nox (defBody s_p31) (rd_p31 K a) := by
  delta rd_p31 rdFig
  exact kss_cons (ks_if (kt_w (kw_or (kt_isN (kv 0)) (kw_or1 (kt_cmp op_ge (kv 1) (ke_callB call_lenS T.n_len PyProof.Rows.Boot.«len» (ka_cons (kv 0) ka_nil)))))) (kss_one (ks_ret ke_int)) (kss_nil))
      (kss_one (ks_ret (ke_bm PySem.F.plainAttrs_str PySem.F.slot_str_index PySem.F.type_str_index mt_index (ke_gstr T.c_SMALL small_eq) (ka_cons (ke_ix ix_strL (kv 0) (kv 1)) ka_nil))))
theorem sc_p51 : FnScope ["letters", "mark", "long", "whole", "place"] ["letters", "mark", "long"] (defScope s_p51) := ⟨rfl, rfl, rfl, by decide +kernel, rfl, by decide +kernel, by decide +kernel⟩
def rd_p51 (K:PySem.W.Frag) (a:Ad):TS:=
    rdWhole
theorem pr_p51 (T : Tx K mg a) (G_p31 : FnOk P w K mg base CX0 1 a.f_p31 a.fd_p31 ["mark", "place"] spFig) (hr : Room 1 (A.deeper (envOfC "whole_of" (defScope s_p51) s.heap.objs.size f cdv))) :
    QSs (cxOf CX0 P w K mg base ["letters", "mark", "long", "whole", "place"] "whole_of" (defScope s_p51) f cdv A outer s H E).nox (defBody s_p51) (rd_p51 K a) := by
  delta rd_p51 rdWhole
  exact kss_cons (ks_set (i:=3) sc_p51.nd ke_int)
      (kss_cons (ks_for (ki_range1 T.n_range (ka_cons (kv 2) ka_nil)) (kg_name (i:=4) sc_p51.nd) (kss_one (ks_set (i:=3) sc_p51.nd (ke_op op_add (ke_op op_mulB (kv 3) (kv 0)) (ke_call G_p31 (by exact hr.mono (by decide)) T.g_p31 T.F_p31.kp T.b_p31 pass0 (ka_cons (kv 1) (ka_cons (kv 4) ka_nil)))))))
      (kss_one (ks_ret (kv 3))))
theorem sc_p38 : FnScope ["letters", "number", "long", "text", "rest", "step"] ["letters", "number", "long"] (defScope s_p38) := ⟨rfl, rfl, rfl, by decide +kernel, rfl, by decide +kernel, by decide +kernel⟩
def rd_p38 (K:PySem.W.Frag) (a:Ad):TS:=
    rdMarkOf K
theorem pr_p38 (T:Tx K mg a) (hr:Room 0 (A.deeper (envOfC "mark_of" (defScope s_p38) s.heap.objs.size f cdv))) :
    QSs (cxOf CX0 P w K mg base ["letters", "number", "long", "text", "rest", "step"] "mark_of" (defScope s_p38) f cdv A outer s H E).nox (defBody s_p38) (rd_p38 K a) := by
  delta rd_p38 rdMarkOf
  exact kss_cons (ks_set (i:=3) sc_p38.nd (ke_txt (by kernel_rfl)))
      (kss_cons (ks_set (i:=4) sc_p38.nd (kv 1))
      (kss_cons (ks_for (ki_range1 T.n_range (ka_cons (kv 2) ka_nil)) (kg_name (i:=5) sc_p38.nd) (kss_cons (ks_set (i:=3) sc_p38.nd (ke_op op_addS (ke_ix ix_strL (ke_gstr T.c_SMALL small_eq) (ke_op op_mod (kv 4) (kv 0))) (kv 3)))
      (kss_one (ks_set (i:=4) sc_p38.nd (ke_op op_fdiv (kv 4) (kv 0))))))
      (kss_one (ks_ret (ke_bm PySem.F.plainAttrs_str PySem.F.slot_str_rstrip PySem.F.type_str_rstrip mt_rstrip (kv 3) (ka_cons (ke_txt (by kernel_rfl)) ka_nil))))))
theorem sc_p30 : FnScope ["letters", "hands", "hand"] ["letters", "hands", "hand"] (defScope s_p30) := ⟨rfl, rfl, rfl, by decide +kernel, rfl, by decide +kernel, by decide +kernel⟩
def rd_p30 (K:PySem.W.Frag) (a:Ad):TS:=
    rdEnds K
theorem pr_p30 (T:Tx K mg a) (hr:Room 0 (A.deeper (envOfC "ends_of" (defScope s_p30) s.heap.objs.size f cdv))) :
    QSs (cxOf CX0 P w K mg base ["letters", "hands", "hand"] "ends_of" (defScope s_p30) f cdv A outer s H E).nox (defBody s_p30) (rd_p30 K a) := by
  delta rd_p30 rdEnds
  exact kss_one (ks_ret (ke_bm PySem.F.plainAttrs_str PySem.F.slot_str_join PySem.F.type_str_join mt_join (ke_txt (by kernel_rfl)) (ka_cons (ke_comp [("hand", 2), ("hands", 1)] (ki_range2 T.n_range (ka_cons ke_int (ka_cons (kv 0) ka_nil))) (fun _ _ _ _ _ => ⟨kts_one (kt_cmp op_eq (ke_op op_mod (ke_op op_sub (kv 0) ke_int) (kvc 2)) (kvc 1)), ke_ix ix_strL (ke_gstr T.c_SMALL small_eq) (kv 0)⟩)) ka_nil)))
theorem sc_p27 : FnScope ["low", "high"] ["low", "high"] (defScope s_p27) := ⟨rfl, rfl, rfl, by decide +kernel, rfl, by decide +kernel, by decide +kernel⟩
def rd_p27 (K:PySem.W.Frag) (a:Ad) (E:XK):TS:=
    rdAskRoom a.c_NoRoom E [108,111,119,32,100,111,101,115,32,110,111,116,32,99,111,109,101,32,97,104,101,97,100,32,111,102,32,104,105,103,104]
theorem pr_p27 (T:Tx K mg a) (hr:Room 0 (A.deeper (envOfC "ask_room" (defScope s_p27) s.heap.objs.size f cdv))) :
    QSs (cxOf (CX1 P w) P w K mg base ["low", "high"] "ask_room" (defScope s_p27) f cdv A outer s H E) (defBody s_p27) (rd_p27 K a E) := by
  delta rd_p27 rdAskRoom
  exact kss_one (ks_if (kt_w (kw_and (kt_notN (kv 0)) (kw_and (kt_notN (kv 1)) (kw_and1 (kt_cmp op_geS (kv 0) (kv 1)))))) (kss_one (ks_raise PySem.F.excBase_ValueError T.x_NoRoom T.m_NoRoom (ka_cons (ke_txt (by kernel_rfl)) ka_nil) (fun _ _ _ _ _ _ _ I m q=>made_def I m q))) (kss_nil))
theorem sc_p32 : FnScope ["letters", "high", "long"] ["letters", "high", "long"] (defScope s_p32) := ⟨rfl, rfl, rfl, by decide +kernel, rfl, by decide +kernel, by decide +kernel⟩
def rd_p32 (K:PySem.W.Frag) (a:Ad):TS:=
    rdHigh
theorem pr_p32 (T : Tx K mg a) (G_p43 : FnOk P w K mg base CX0 1 a.f_p43 a.fd_p43 ["letters", "long"] spPower) (G_p51 : FnOk P w K mg base CX0 2 a.f_p51 a.fd_p51 ["letters", "mark", "long"] spWhole) (hr : Room 2 (A.deeper (envOfC "high_whole_of" (defScope s_p32) s.heap.objs.size f cdv))) :
    QSs (cxOf CX0 P w K mg base ["letters", "high", "long"] "high_whole_of" (defScope s_p32) f cdv A outer s H E).nox (defBody s_p32) (rd_p32 K a) := by
  delta rd_p32 rdHigh
  exact kss_cons (ks_if (kt_isN (kv 1)) (kss_one (ks_ret (ke_call G_p43 (by exact hr.mono (by decide)) T.g_p43 T.F_p43.kp T.b_p43 pass0 (ka_cons (kv 0) (ka_cons (kv 2) ka_nil))))) (kss_nil))
      (kss_one (ks_ret (ke_call G_p51 (by exact hr.mono (by decide)) T.g_p51 T.F_p51.kp T.b_p51 pass0 (ka_cons (kv 0) (ka_cons (kv 1) (ka_cons (kv 2) ka_nil))))))
theorem sc_p41 : FnScope ["letters", "ends", "number", "lesser"] ["letters", "ends", "number"] (defScope s_p41) := ⟨rfl, rfl, rfl, by decide +kernel, rfl, by decide +kernel, by decide +kernel⟩
def rd_p41 (K:PySem.W.Frag) (a:Ad):TS:=
    rdBelow K
theorem pr_p41 (T:Tx K mg a) (hr:Room 0 (A.deeper (envOfC "owned_below" (defScope s_p41) s.heap.objs.size f cdv))) :
    QSs (cxOf CX0 P w K mg base ["letters", "ends", "number", "lesser"] "owned_below" (defScope s_p41) f cdv A outer s H E).nox (defBody s_p41) (rd_p41 K a) := by
  delta rd_p41 rdBelow
  exact kss_cons (ks_comp (i := 3) [("number", 2), ("letters", 0)] sc_p41.nd (ki_str (kv 1)) (fun _ _ _ _ _ => ⟨kts_one (kt_cmp op_ltS (kv 0) (ke_ix ix_strL (ke_gstr T.c_SMALL small_eq) (ke_op op_mod (kvc 1) (kvc 2)))), kv 0⟩))
      (kss_one (ks_ret (ke_op op_add (ke_op op_mulB (ke_op op_fdiv (kvc 2) (kvc 0)) (ke_callB call_lenS T.n_len PyProof.Rows.Boot.«len» (ka_cons (kv 1) ka_nil))) (ke_callB call_len_seq T.n_len PyProof.Rows.Boot.«len» (ka_cons (kv 3) ka_nil)))))
theorem sc_p42 : FnScope ["letters", "ends", "low_whole"] ["letters", "ends", "low_whole"] (defScope s_p42) := ⟨rfl, rfl, rfl, by decide +kernel, rfl, by decide +kernel, by decide +kernel⟩
def rd_p42 (K:PySem.W.Frag) (a:Ad):TS:=
    rdUpLow
theorem pr_p42 (T : Tx K mg a) (G_p41 : FnOk P w K mg base CX0 1 a.f_p41 a.fd_p41 ["letters", "ends", "number"] spBelow) (hr : Room 1 (A.deeper (envOfC "owned_up_to_low" (defScope s_p42) s.heap.objs.size f cdv))) :
    QSs (cxOf CX0 P w K mg base ["letters", "ends", "low_whole"] "owned_up_to_low" (defScope s_p42) f cdv A outer s H E).nox (defBody s_p42) (rd_p42 K a) := by
  delta rd_p42 rdUpLow
  exact kss_one (ks_ret (ke_call G_p41 (by exact hr.mono (by decide)) T.g_p41 T.F_p41.kp T.b_p41 pass0 (ka_cons (kv 0) (ka_cons (kv 1) (ka_cons (ke_op op_add (kv 2) ke_int) ka_nil)))))
theorem sc_p40 : FnScope ["letters", "ends", "high", "high_whole", "long", "beginnings"] ["letters", "ends", "high", "high_whole", "long", "beginnings"] (defScope s_p40) := ⟨rfl, rfl, rfl, by decide +kernel, rfl, by decide +kernel, by decide +kernel⟩
def rd_p40 (K:PySem.W.Frag) (a:Ad):TS:=
    rdAhead
theorem pr_p40 (T : Tx K mg a) (G_p41 : FnOk P w K mg base CX0 1 a.f_p41 a.fd_p41 ["letters", "ends", "number"] spBelow) (hr : Room 1 (A.deeper (envOfC "owned_ahead_of_high" (defScope s_p40) s.heap.objs.size f cdv))) :
    QSs (cxOf CX0 P w K mg base ["letters", "ends", "high", "high_whole", "long", "beginnings"] "owned_ahead_of_high" (defScope s_p40) f cdv A outer s H E).nox (defBody s_p40) (rd_p40 K a) := by
  delta rd_p40 rdAhead
  exact kss_cons (ks_if (kt_w (kw_and (kt_val (kv 5)) (kw_and (kt_notN (kv 2)) (kw_and1 (kt_cmp op_lt (kv 4) (ke_callB call_lenS T.n_len PyProof.Rows.Boot.«len» (ka_cons (kv 2) ka_nil))))))) (kss_one (ks_ret (ke_call G_p41 (by exact hr.mono (by decide)) T.g_p41 T.F_p41.kp T.b_p41 pass0 (ka_cons (kv 0) (ka_cons (kv 1) (ka_cons (ke_op op_add (kv 3) ke_int) ka_nil)))))) (kss_nil))
      (kss_one (ks_ret (ke_call G_p41 (by exact hr.mono (by decide)) T.g_p41 T.F_p41.kp T.b_p41 pass0 (ka_cons (kv 0) (ka_cons (kv 1) (ka_cons (kv 3) ka_nil))))))
theorem sc_p29 : FnScope ["letters", "ends", "low", "high", "long", "beginnings", "low_whole", "high_whole", "ahead"] ["letters", "ends", "low", "high", "long", "beginnings"] (defScope s_p29) := ⟨rfl, rfl, rfl, by decide +kernel, rfl, by decide +kernel, by decide +kernel⟩
def rd_p29 (K:PySem.W.Frag) (a:Ad):TS:=
    rdCounted
theorem pr_p29 (T : Tx K mg a) (G_p51 : FnOk P w K mg base CX0 2 a.f_p51 a.fd_p51 ["letters", "mark", "long"] spWhole) (G_p32 : FnOk P w K mg base CX0 3 a.f_p32 a.fd_p32 ["letters", "high", "long"] spHigh) (G_p40 : FnOk P w K mg base CX0 2 a.f_p40 a.fd_p40 ["letters", "ends", "high", "high_whole", "long", "beginnings"] spAhead) (G_p42 : FnOk P w K mg base CX0 2 a.f_p42 a.fd_p42 ["letters", "ends", "low_whole"] spUpLow) (hr : Room 3 (A.deeper (envOfC "counted_at" (defScope s_p29) s.heap.objs.size f cdv))) :
    QSs (cxOf CX0 P w K mg base ["letters", "ends", "low", "high", "long", "beginnings", "low_whole", "high_whole", "ahead"] "counted_at" (defScope s_p29) f cdv A outer s H E).nox (defBody s_p29) (rd_p29 K a) := by
  delta rd_p29 rdCounted
  exact kss_cons (ks_set (i:=6) sc_p29.nd (ke_call G_p51 (by exact hr.mono (by decide)) T.g_p51 T.F_p51.kp T.b_p51 pass0 (ka_cons (kv 0) (ka_cons (kv 2) (ka_cons (kv 4) ka_nil)))))
      (kss_cons (ks_set (i:=7) sc_p29.nd (ke_call G_p32 (by exact hr.mono (by decide)) T.g_p32 T.F_p32.kp T.b_p32 pass0 (ka_cons (kv 0) (ka_cons (kv 3) (ka_cons (kv 4) ka_nil)))))
      (kss_cons (ks_set (i:=8) sc_p29.nd (ke_call G_p40 (by exact hr.mono (by decide)) T.g_p40 T.F_p40.kp T.b_p40 pass0 (ka_cons (kv 0) (ka_cons (kv 1) (ka_cons (kv 3) (ka_cons (kv 7) (ka_cons (kv 4) (ka_cons (kv 5) ka_nil))))))))
      (kss_one (ks_ret (ke_op op_sub (kv 8) (ke_call G_p42 (by exact hr.mono (by decide)) T.g_p42 T.F_p42.kp T.b_p42 pass0 (ka_cons (kv 0) (ka_cons (kv 1) (ka_cons (kv 6) ka_nil)))))))))
theorem sc_p47 : FnScope ["letters", "hands", "hand", "low", "high", "long"] ["letters", "hands", "hand", "low", "high", "long"] (defScope s_p47) := ⟨rfl, rfl, rfl, by decide +kernel, rfl, by decide +kernel, by decide +kernel⟩
def rd_p47 (K:PySem.W.Frag) (a:Ad) (E:XK):TS:=
    rdRoom a.c_NoRoom E
theorem pr_p47 (T : Tx K mg a) (G_p27 : FnOk P w K mg base (CX1 P w) 1 a.f_p27 a.fd_p27 ["low", "high"] (spAskRoom a.c_NoRoom)) (G_p30 : FnOk P w K mg base CX0 1 a.f_p30 a.fd_p30 ["letters", "hands", "hand"] spEnds) (G_p29 : FnOk P w K mg base CX0 4 a.f_p29 a.fd_p29 ["letters", "ends", "low", "high", "long", "beginnings"] spCounted) (hr : Room 4 (A.deeper (envOfC "room_at" (defScope s_p47) s.heap.objs.size f cdv))) :
    QSs (cxOf (CX1 P w) P w K mg base ["letters", "hands", "hand", "low", "high", "long"] "room_at" (defScope s_p47) f cdv A outer s H E) (defBody s_p47) (rd_p47 K a E) := by
  delta rd_p47 rdRoom
  exact kss_cons (ks_expr (ke_call G_p27 (by exact hr.mono (by decide)) T.g_p27 T.F_p27.kp T.b_p27 pass_def (ka_cons (kv 3) (ka_cons (kv 4) ka_nil))))
      (kss_one (ks_nox (ks_ret (ke_call G_p29 (by exact hr.mono (by decide)) T.g_p29 T.F_p29.kp T.b_p29 pass0 (ka_cons (kv 0) (ka_cons (ke_call G_p30 (by exact hr.mono (by decide)) T.g_p30 T.F_p30.kp T.b_p30 pass0 (ka_cons (kv 0) (ka_cons (kv 1) (ka_cons (kv 2) ka_nil)))) (ka_cons (kv 3) (ka_cons (kv 4) (ka_cons (kv 5) (ka_cons ke_bl ka_nil))))))))))
theorem sc_p39 : FnScope ["letters", "hands", "hand", "low", "high", "long", "number", "ends", "low_whole", "place", "last"] ["letters", "hands", "hand", "low", "high", "long", "number"] (defScope s_p39) := ⟨rfl, rfl, rfl, by decide +kernel, rfl, by decide +kernel, by decide +kernel⟩
def rd_p39 (K:PySem.W.Frag) (a:Ad) (E:XK):TS:=
    rdNth K a.c_NoRoom E
theorem pr_p39 (T : Tx K mg a) (G_p27 : FnOk P w K mg base (CX1 P w) 1 a.f_p27 a.fd_p27 ["low", "high"] (spAskRoom a.c_NoRoom)) (G_p30 : FnOk P w K mg base CX0 1 a.f_p30 a.fd_p30 ["letters", "hands", "hand"] spEnds) (G_p51 : FnOk P w K mg base CX0 2 a.f_p51 a.fd_p51 ["letters", "mark", "long"] spWhole) (G_p42 : FnOk P w K mg base CX0 2 a.f_p42 a.fd_p42 ["letters", "ends", "low_whole"] spUpLow) (G_p38 : FnOk P w K mg base CX0 1 a.f_p38 a.fd_p38 ["letters", "number", "long"] spMarkOf) (hr : Room 2 (A.deeper (envOfC "nth_mark" (defScope s_p39) s.heap.objs.size f cdv))) :
    QSs (cxOf (CX1 P w) P w K mg base ["letters", "hands", "hand", "low", "high", "long", "number", "ends", "low_whole", "place", "last"] "nth_mark" (defScope s_p39) f cdv A outer s H E) (defBody s_p39) (rd_p39 K a E) := by
  delta rd_p39 rdNth
  exact kss_cons (ks_expr (ke_call G_p27 (by exact hr.mono (by decide)) T.g_p27 T.F_p27.kp T.b_p27 pass_def (ka_cons (kv 3) (ka_cons (kv 4) ka_nil))))
      (kss_cons (ks_nox (ks_set (i:=7) sc_p39.nd (ke_call G_p30 (by exact hr.mono (by decide)) T.g_p30 T.F_p30.kp T.b_p30 pass0 (ka_cons (kv 0) (ka_cons (kv 1) (ka_cons (kv 2) ka_nil))))))
      (kss_cons (ks_nox (ks_set (i:=8) sc_p39.nd (ke_call G_p51 (by exact hr.mono (by decide)) T.g_p51 T.F_p51.kp T.b_p51 pass0 (ka_cons (kv 0) (ka_cons (kv 3) (ka_cons (kv 5) ka_nil))))))
      (kss_cons (ks_nox (ks_set (i:=9) sc_p39.nd (ke_op op_add (ke_call G_p42 (by exact hr.mono (by decide)) T.g_p42 T.F_p42.kp T.b_p42 pass0 (ka_cons (kv 0) (ka_cons (kv 7) (ka_cons (kv 8) ka_nil)))) (kv 6))))
      (kss_cons (ks_nox (ks_set (i:=10) sc_p39.nd (ke_bm PySem.F.plainAttrs_str PySem.F.slot_str_index PySem.F.type_str_index mt_index (ke_gstr T.c_SMALL small_eq) (ka_cons (ke_ix ix_strL (kv 7) (ke_op op_mod (kv 9) (ke_callB call_lenS T.n_len PyProof.Rows.Boot.«len» (ka_cons (kv 7) ka_nil)))) ka_nil))))
      (kss_one (ks_nox (ks_ret (ke_call G_p38 (by exact hr.mono (by decide)) T.g_p38 T.F_p38.kp T.b_p38 pass0 (ka_cons (kv 0) (ka_cons (ke_op op_add (ke_op op_mulB (ke_op op_fdiv (kv 9) (ke_callB call_lenS T.n_len PyProof.Rows.Boot.«len» (ka_cons (kv 7) ka_nil))) (kv 0)) (kv 10)) (ka_cons (kv 5) ka_nil)))))))))))
theorem sc_p35 : FnScope ["letters", "ends", "low", "high", "many", "beginnings", "long", "room", "low_whole", "high_whole", "ahead"] ["letters", "ends", "low", "high", "many", "beginnings"] (defScope s_p35) := ⟨rfl, rfl, rfl, by decide +kernel, rfl, by decide +kernel, by decide +kernel⟩
def rd_p35 (K:PySem.W.Frag) (a:Ad):TS:=
    rdLeastC
theorem pr_p35 (T : Tx K mg a) (G_p32 : FnOk P w K mg base CX0 3 a.f_p32 a.fd_p32 ["letters", "high", "long"] spHigh) (G_p31 : FnOk P w K mg base CX0 1 a.f_p31 a.fd_p31 ["mark", "place"] spFig) (G_p40 : FnOk P w K mg base CX0 2 a.f_p40 a.fd_p40 ["letters", "ends", "high", "high_whole", "long", "beginnings"] spAhead) (G_p42 : FnOk P w K mg base CX0 2 a.f_p42 a.fd_p42 ["letters", "ends", "low_whole"] spUpLow) (hr : Room 3 (A.deeper (envOfC "least_counted" (defScope s_p35) s.heap.objs.size f cdv))) :
    QSs (cxOf CX0 P w K mg base ["letters", "ends", "low", "high", "many", "beginnings", "long", "room", "low_whole", "high_whole", "ahead"] "least_counted" (defScope s_p35) f cdv A outer s H E).nox (defBody s_p35) (rd_p35 K a) := by
  delta rd_p35 rdLeastC
  exact kss_cons (ks_set (i:=6) sc_p35.nd ke_int)
      (kss_cons (ks_set (i:=7) sc_p35.nd ke_int)
      (kss_cons (ks_set (i:=8) sc_p35.nd ke_int)
      (kss_cons (ks_set (i:=9) sc_p35.nd (ke_call G_p32 (by exact hr.mono (by decide)) T.g_p32 T.F_p32.kp T.b_p32 pass0 (ka_cons (kv 0) (ka_cons (kv 3) (ka_cons ke_int ka_nil)))))
      (kss_cons (ks_while (kt_cmp op_lt (kv 7) (kv 4)) (kss_cons (ks_set (i:=8) sc_p35.nd (ke_op op_add (ke_op op_mulB (kv 8) (kv 0)) (ke_call G_p31 (by exact hr.mono (by decide)) T.g_p31 T.F_p31.kp T.b_p31 pass0 (ka_cons (kv 2) (ka_cons (kv 6) ka_nil)))))
      (kss_cons (ks_set (i:=9) sc_p35.nd (ke_op op_add (ke_op op_mulB (kv 9) (kv 0)) (ke_call G_p31 (by exact hr.mono (by decide)) T.g_p31 T.F_p31.kp T.b_p31 pass0 (ka_cons (kv 3) (ka_cons (kv 6) ka_nil)))))
      (kss_cons (ks_set (i:=6) sc_p35.nd (ke_op op_add (kv 6) ke_int))
      (kss_cons (ks_set (i:=10) sc_p35.nd (ke_call G_p40 (by exact hr.mono (by decide)) T.g_p40 T.F_p40.kp T.b_p40 pass0 (ka_cons (kv 0) (ka_cons (kv 1) (ka_cons (kv 3) (ka_cons (kv 9) (ka_cons (kv 6) (ka_cons (kv 5) ka_nil))))))))
      (kss_one (ks_set (i:=7) sc_p35.nd (ke_op op_sub (kv 10) (ke_call G_p42 (by exact hr.mono (by decide)) T.g_p42 T.F_p42.kp T.b_p42 pass0 (ka_cons (kv 0) (ka_cons (kv 1) (ka_cons (kv 8) ka_nil))))))))))))
      (kss_one (ks_ret (kv 6)))))))
theorem sc_p36 : FnScope ["letters", "hands", "hand", "low", "high", "many"] ["letters", "hands", "hand", "low", "high", "many"] (defScope s_p36) := ⟨rfl, rfl, rfl, by decide +kernel, rfl, by decide +kernel, by decide +kernel⟩
def rd_p36 (K:PySem.W.Frag) (a:Ad) (E:XK):TS:=
    rdLeast a.c_NoRoom E
theorem pr_p36 (T : Tx K mg a) (G_p27 : FnOk P w K mg base (CX1 P w) 1 a.f_p27 a.fd_p27 ["low", "high"] (spAskRoom a.c_NoRoom)) (G_p30 : FnOk P w K mg base CX0 1 a.f_p30 a.fd_p30 ["letters", "hands", "hand"] spEnds) (G_p35 : FnOk P w K mg base CX0 4 a.f_p35 a.fd_p35 ["letters", "ends", "low", "high", "many", "beginnings"] spLeastC) (hr : Room 4 (A.deeper (envOfC "least_long" (defScope s_p36) s.heap.objs.size f cdv))) :
    QSs (cxOf (CX1 P w) P w K mg base ["letters", "hands", "hand", "low", "high", "many"] "least_long" (defScope s_p36) f cdv A outer s H E) (defBody s_p36) (rd_p36 K a E) := by
  delta rd_p36 rdLeast
  exact kss_cons (ks_expr (ke_call G_p27 (by exact hr.mono (by decide)) T.g_p27 T.F_p27.kp T.b_p27 pass_def (ka_cons (kv 3) (ka_cons (kv 4) ka_nil))))
      (kss_one (ks_nox (ks_ret (ke_call G_p35 (by exact hr.mono (by decide)) T.g_p35 T.F_p35.kp T.b_p35 pass0 (ka_cons (kv 0) (ka_cons (ke_call G_p30 (by exact hr.mono (by decide)) T.g_p30 T.F_p30.kp T.b_p30 pass0 (ka_cons (kv 0) (ka_cons (kv 1) (ka_cons (kv 2) ka_nil)))) (ka_cons (kv 3) (ka_cons (kv 4) (ka_cons (kv 5) (ka_cons ke_bl ka_nil))))))))))
theorem sc_p50 : FnScope ["low", "high", "many"] ["low", "high", "many"] (defScope s_p50) := ⟨rfl, rfl, rfl, by decide +kernel, rfl, by decide +kernel, by decide +kernel⟩
def rd_p50 (K:PySem.W.Frag) (a:Ad):TS:=
    rdTold
theorem pr_p50 (T:Tx K mg a) (hr:Room 0 (A.deeper (envOfC "told_number" (defScope s_p50) s.heap.objs.size f cdv))) :
    QSs (cxOf CX0 P w K mg base ["low", "high", "many"] "told_number" (defScope s_p50) f cdv A outer s H E).nox (defBody s_p50) (rd_p50 K a) := by
  delta rd_p50 rdTold
  exact kss_cons (ks_if (kt_w (kw_and (kt_isN (kv 1)) (kw_and1 (kt_notN (kv 0))))) (kss_one (ks_ret ke_int)) (kss_nil))
      (kss_cons (ks_if (kt_w (kw_and (kt_isN (kv 0)) (kw_and1 (kt_notN (kv 1))))) (kss_one (ks_ret (ke_op op_sub (kv 2) ke_int))) (kss_nil))
      (kss_one (ks_ret (ke_op op_fdiv (ke_op op_sub (kv 2) ke_int) ke_int))))
theorem sc_p37 : FnScope ["letters", "hands", "hand", "low", "high", "long", "many"] ["letters", "hands", "hand", "low", "high"] (defScope s_p37) := ⟨rfl, rfl, rfl, by decide +kernel, rfl, by decide +kernel, by decide +kernel⟩
def rd_p37 (K:PySem.W.Frag) (a:Ad) (E:XK):TS:=
    rdBetween a.c_NoRoom E
theorem pr_p37 (T : Tx K mg a) (G_p36 : FnOk P w K mg base (CX1 P w) 5 a.f_p36 a.fd_p36 ["letters", "hands", "hand", "low", "high", "many"] (spLeast a.c_NoRoom)) (G_p47 : FnOk P w K mg base (CX1 P w) 5 a.f_p47 a.fd_p47 ["letters", "hands", "hand", "low", "high", "long"] (spRoom a.c_NoRoom)) (G_p50 : FnOk P w K mg base CX0 1 a.f_p50 a.fd_p50 ["low", "high", "many"] spTold) (G_p39 : FnOk P w K mg base (CX1 P w) 3 a.f_p39 a.fd_p39 ["letters", "hands", "hand", "low", "high", "long", "number"] (spNth a.c_NoRoom)) (hr : Room 5 (A.deeper (envOfC "mark_between" (defScope s_p37) s.heap.objs.size f cdv))) :
    QSs (cxOf (CX1 P w) P w K mg base ["letters", "hands", "hand", "low", "high", "long", "many"] "mark_between" (defScope s_p37) f cdv A outer s H E) (defBody s_p37) (rd_p37 K a E) := by
  delta rd_p37 rdBetween
  exact kss_cons (ks_set (i:=5) sc_p37.nd (ke_call G_p36 (by exact hr.mono (by decide)) T.g_p36 T.F_p36.kp T.b_p36 pass_def (ka_cons (kv 0) (ka_cons (kv 1) (ka_cons (kv 2) (ka_cons (kv 3) (ka_cons (kv 4) (ka_cons ke_int ka_nil))))))))
      (kss_cons (ks_set (i:=6) sc_p37.nd (ke_call G_p47 (by exact hr.mono (by decide)) T.g_p47 T.F_p47.kp T.b_p47 pass_def (ka_cons (kv 0) (ka_cons (kv 1) (ka_cons (kv 2) (ka_cons (kv 3) (ka_cons (kv 4) (ka_cons (kv 5) ka_nil))))))))
      (kss_one (ks_ret (ke_call G_p39 (by exact hr.mono (by decide)) T.g_p39 T.F_p39.kp T.b_p39 pass_def (ka_cons (kv 0) (ka_cons (kv 1) (ka_cons (kv 2) (ka_cons (kv 3) (ka_cons (kv 4) (ka_cons (kv 5) (ka_cons (ke_call G_p50 (by exact hr.mono (by decide)) T.g_p50 T.F_p50.kp T.b_p50 pass0 (ka_cons (kv 3) (ka_cons (kv 4) (ka_cons (kv 6) ka_nil)))) ka_nil)))))))))))
theorem sc_p48 : FnScope ["many", "whole"] ["many", "whole"] (defScope s_p48) := ⟨rfl, rfl, rfl, by decide +kernel, rfl, by decide +kernel, by decide +kernel⟩
def rd_p48 (K:PySem.W.Frag) (a:Ad):TS:=
    rdSpread
theorem pr_p48 (T:Tx K mg a) (hr:Room 0 (A.deeper (envOfC "spread" (defScope s_p48) s.heap.objs.size f cdv))) :
    QSs (cxOf CX0 P w K mg base ["many", "whole"] "spread" (defScope s_p48) f cdv A outer s H E).nox (defBody s_p48) (rd_p48 K a) := by
  delta rd_p48 rdSpread
  exact kss_one (ks_ret (ke_comp [("whole", 1), ("many", 0)] (ki_range1 T.n_range (ka_cons (kvc 0) ka_nil)) (fun _ _ _ _ _ => ⟨kts_nil, ke_op op_fdiv (ke_op op_mulB (ke_op op_add (kv 0) ke_int) (kvc 1)) (ke_op op_add (kvc 2) ke_int)⟩)))
theorem sc_p46 : FnScope ["letters", "many", "long", "texts"] ["letters", "many"] (defScope s_p46) := ⟨rfl, rfl, rfl, by decide +kernel, rfl, by decide +kernel, by decide +kernel⟩
def rd_p46 (K:PySem.W.Frag) (a:Ad):TS:=
    rdRenLong
theorem pr_p46 (T:Tx K mg a) (hr:Room 0 (A.deeper (envOfC "renewed_long" (defScope s_p46) s.heap.objs.size f cdv))) :
    QSs (cxOf CX0 P w K mg base ["letters", "many", "long", "texts"] "renewed_long" (defScope s_p46) f cdv A outer s H E).nox (defBody s_p46) (rd_p46 K a) := by
  delta rd_p46 rdRenLong
  exact kss_cons (ks_set (i:=2) sc_p46.nd ke_int)
      (kss_cons (ks_set (i:=3) sc_p46.nd ke_int)
      (kss_cons (ks_while (kt_cmp op_lt (ke_op op_sub (kv 3) ke_int) (kv 1)) (kss_cons (ks_set (i:=3) sc_p46.nd (ke_op op_mulB (kv 3) (kv 0)))
      (kss_one (ks_set (i:=2) sc_p46.nd (ke_op op_add (kv 2) ke_int)))))
      (kss_one (ks_ret (kv 2)))))
theorem sc_p45 : FnScope ["letters", "many", "long"] ["letters", "many"] (defScope s_p45) := ⟨rfl, rfl, rfl, by decide +kernel, rfl, by decide +kernel, by decide +kernel⟩
def rd_p45 (K:PySem.W.Frag) (a:Ad):TS:=
    rdRenewed K
theorem pr_p45 (T : Tx K mg a) (G_p46 : FnOk P w K mg base CX0 1 a.f_p46 a.fd_p46 ["letters", "many"] spRenLong) (G_p43 : FnOk P w K mg base CX0 1 a.f_p43 a.fd_p43 ["letters", "long"] spPower) (G_p48 : FnOk P w K mg base CX0 1 a.f_p48 a.fd_p48 ["many", "whole"] spSpread) (G_p38 : FnOk P w K mg base CX0 1 a.f_p38 a.fd_p38 ["letters", "number", "long"] spMarkOf) (hr : Room 1 (A.deeper (envOfC "renewed" (defScope s_p45) s.heap.objs.size f cdv))) :
    QSs (cxOf CX0 P w K mg base ["letters", "many", "long"] "renewed" (defScope s_p45) f cdv A outer s H E).nox (defBody s_p45) (rd_p45 K a) := by
  delta rd_p45 rdRenewed
  exact kss_cons (ks_setc (i:=2) sc_p45.nd (ke_call G_p46 (by exact hr.mono (by decide)) T.g_p46 T.F_p46.kp T.b_p46 pass0 (ka_cons (kvc 0) (ka_cons (kv 1) ka_nil))))
      (kss_one (ks_ret (ke_comp [("letters", 0), ("long", 2)] (ki_list (ke_call G_p48 (by exact hr.mono (by decide)) T.g_p48 T.F_p48.kp T.b_p48 pass0 (ka_cons (kv 1) (ka_cons (ke_call G_p43 (by exact hr.mono (by decide)) T.g_p43 T.F_p43.kp T.b_p43 pass0 (ka_cons (kvc 0) (ka_cons (kvc 2) ka_nil))) ka_nil)))) (fun _ _ _ _ _ => ⟨kts_nil, ke_call G_p38 (by exact hr.mono (by decide)) T.g_p38 T.F_p38.kp T.b_p38 pass0 (ka_cons (kvc 1) (ka_cons (kv 0) (ka_cons (kvc 2) ka_nil)))⟩))))
theorem sc_p44 : FnScope ["letters", "known", "fresh", "rows", "given", "mark", "stands"] ["letters", "known"] (defScope s_p44) := ⟨rfl, rfl, rfl, by decide +kernel, rfl, by decide +kernel, by decide +kernel⟩
def rd_p44 (K:PySem.W.Frag) (a:Ad):TS:=
    rdRows K
theorem pr_p44 (T : Tx K mg a) (G_p45 : FnOk P w K mg base CX0 2 a.f_p45 a.fd_p45 ["letters", "many"] spRenewed) (hr : Room 2 (A.deeper (envOfC "renewal_rows" (defScope s_p44) s.heap.objs.size f cdv))) :
    QSs (cxOf CX0 P w K mg base ["letters", "known", "fresh", "rows", "given", "mark", "stands"] "renewal_rows" (defScope s_p44) f cdv A outer s H E).nox (defBody s_p44) (rd_p44 K a) := by
  delta rd_p44 rdRows
  exact kss_cons (ks_set (i:=2) sc_p44.nd (ke_call G_p45 (by exact hr.mono (by decide)) T.g_p45 T.F_p45.kp T.b_p45 pass0 (ka_cons (kv 0) (ka_cons (ke_callB call_len_seq T.n_len PyProof.Rows.Boot.«len» (ka_cons (ke_comp2 [] (ki_list (kv 1)) (fun _ _ _ _ _=>⟨kts_one (kt_val (kv 1)),kv 0⟩)) ka_nil)) ka_nil))))
      (kss_cons (ks_set (i:=3) sc_p44.nd (ke_lst ka_nil))
      (kss_cons (ks_set (i:=4) sc_p44.nd ke_int)
      (kss_cons (ks_for (ki_list (kv 1)) (kg_tup (kgs_cons (kg_name (i:=5) sc_p44.nd) (kgs_cons (kg_name (i:=6) sc_p44.nd) kgs_nil))) (kss_one (ks_if (kt_val (kv 6)) (kss_cons (ks_expr (ke_bm PySem.F.plainAttrs_list PySem.F.slot_list_append PySem.F.type_list_append mt_append (kv 3) (ka_cons (ke_tup (ka_cons (kv 5) (ka_cons (ke_ix ix_list (kv 2) (kv 4)) ka_nil))) ka_nil)))
      (kss_one (ks_set (i:=4) sc_p44.nd (ke_op op_add (kv 4) ke_int)))) (kss_one (ks_expr (ke_bm PySem.F.plainAttrs_list PySem.F.slot_list_append PySem.F.type_list_append mt_append (kv 3) (ka_cons (ke_tup (ka_cons (kv 5) (ka_cons ke_non ka_nil))) ka_nil)))))))
      (kss_one (ks_ret (kv 3))))))
theorem sc_p49 : FnScope ["letters", "hands", "renewals", "things", "taken"] ["letters", "hands", "renewals", "things", "taken"] (defScope s_p49) := ⟨rfl, rfl, rfl, by decide +kernel, rfl, by decide +kernel, by decide +kernel⟩
def rd_p49 (K:PySem.W.Frag) (a:Ad):TS:=
    rdStateOf K
theorem pr_p49 (T:Tx K mg a) (hr:Room 0 (A.deeper (envOfC "state_of" (defScope s_p49) s.heap.objs.size f cdv))) :
    QSs (cxOf CX0 P w K mg base ["letters", "hands", "renewals", "things", "taken"] "state_of" (defScope s_p49) f cdv A outer s H E).nox (defBody s_p49) (rd_p49 K a) := by
  delta rd_p49 rdStateOf
  exact kss_one (ks_ret (ke_tup (ka_cons (kv 0) (ka_cons (kv 1) (ka_cons (ke_comp [] (ki_list (kv 2)) (fun _ _ _ _ _=>⟨kts_nil,ke_callTy call_list_of T.n_list PyProof.Rows.Boot.«list» (ka_cons (kv 0) ka_nil)⟩)) (ka_cons (ke_callTy call_list_of T.n_list PyProof.Rows.Boot.«list» (ka_cons (kv 3) ka_nil)) (ka_cons (ke_callTy call_list_of T.n_list PyProof.Rows.Boot.«list» (ka_cons (kv 4) ka_nil)) ka_nil)))))))
theorem sc_p33:FnScope ["text"] ["text"] (defScope s_p33):=⟨rfl,rfl,rfl,by decide +kernel,rfl,by decide +kernel,by decide +kernel⟩
def rd_p33 (K:PySem.W.Frag) (a:Ad):TS:=
    tSeq (tIfS (tOr (tTest (tOp rEq (tVar 0) (tC (.str (txt []))))) (tTest (tOp rGtI (tCB rLenS (tCons (tVar 0) tNil)) (tC (.int 12))))) (tRet (tC (.bl false))) (tNext))
      (tRet (tCB (rAllB K) (tCons (tComp (iStr (tVar 0)) [] tYes (tOp rIn1 (tVar 0) (tC (.str (txt [97,98,99,100,101,102,103,104,105,106,107,108,109,110,111,112,113,114,115,116,117,118,119,120,121,122,48,49,50,51,52,53,54,55,56,57]))))) tNil)))
theorem pr_p33 (T:Tx K mg a) (hr:Room 0 (A.deeper (envOfC "is_thing" (defScope s_p33) s.heap.objs.size f cdv))) :
    QSs (cxOf CX0 P w K mg base ["text"] "is_thing" (defScope s_p33) f cdv A outer s H E).nox (defBody s_p33) (rd_p33 K a):=by
  exact kss_cons (ks_if (kt_w (kw_or (kt_cmp op_eq (kv 0) (ke_txt (by kernel_rfl))) (kw_or1 (kt_cmp op_gt (ke_callB call_lenS T.n_len PyProof.Rows.Boot.«len» (ka_cons (kv 0) ka_nil)) (ke_gint T.c_LONGEST_THING))))) (kss_one (ks_ret ke_bl)) (kss_nil))
      (kss_one (ks_ret (ke_callB (call_allB (by kernel_rfl)) T.n_all PyProof.Rows.Boot.«all» (ka_cons (ke_comp [] (ki_str (kv 0)) (fun _ _ _ _ _=>⟨kts_nil,ke_cmp op_in1 (kv 0) (ke_gstr T.c_THING_SIGNS (by kernel_rfl))⟩)) ka_nil))))
theorem sc_p28:FnScope ["text"] ["text"] (defScope s_p28):=⟨rfl,rfl,rfl,by decide +kernel,rfl,by decide +kernel,by decide +kernel⟩
def rd_p28 (K:PySem.W.Frag) (a:Ad) (E:XK):TS:=
    rdAskThing a.c_NoThing E [97,32,116,104,105,110,103,32,104,97,115,32,49,32,116,111,32,49,50,32,115,105,103,110,115,44,32,101,97,99,104,32,97,32,115,109,97,108,108,32,108,101,116,116,101,114,32,111,114,32,97,32,102,105,103,117,114,101]
theorem pr_p28 (T : Tx K mg a) (G_p33 : FnOk P w K mg base CX0 1 a.f_p33 a.fd_p33 ["text"] spIsThing) (hr : Room 1 (A.deeper (envOfC "ask_thing" (defScope s_p28) s.heap.objs.size f cdv))) :
    QSs (cxOf (CX1 P w) P w K mg base ["text"] "ask_thing" (defScope s_p28) f cdv A outer s H E) (defBody s_p28) (rd_p28 K a E):=by
  delta rd_p28 rdAskThing
  exact kss_one (ks_if (kt_not (kt_val (ke_call G_p33 (by exact hr.mono (by decide)) T.g_p33 T.F_p33.kp T.b_p33 pass0 (ka_cons (kv 0) ka_nil)))) (kss_one (ks_raise PySem.F.excBase_ValueError T.x_NoThing T.m_NoThing (ka_cons (ke_txt (by kernel_rfl)) ka_nil) (fun _ _ _ _ _ _ _ I m q=>made_def I m q))) (kss_nil))
theorem sc_p26 : FnScope ["place", "many"] ["place", "many"] (defScope s_p26) := ⟨rfl, rfl, rfl, by decide +kernel, rfl, by decide +kernel, by decide +kernel⟩
def rd_p26 (K:PySem.W.Frag) (a:Ad) (E:XK):TS:=
    rdAskPlace a.c_NoPlace E [116,104,101,114,101,32,105,115,32,110,111,32,115,117,99,104,32,112,108,97,99,101]
theorem pr_p26 (T:Tx K mg a) (hr:Room 0 (A.deeper (envOfC "ask_place" (defScope s_p26) s.heap.objs.size f cdv))) :
    QSs (cxOf (CX1 P w) P w K mg base ["place", "many"] "ask_place" (defScope s_p26) f cdv A outer s H E) (defBody s_p26) (rd_p26 K a E) := by
  delta rd_p26 rdAskPlace
  exact kss_one (ks_if (kt_w (kw_or (kt_cmp op_lt (kv 0) ke_int) (kw_or1 (kt_cmp op_ge (kv 0) (kv 1))))) (kss_one (ks_raise PySem.F.excBase_ValueError T.x_NoPlace T.m_NoPlace (ka_cons (ke_txt (by kernel_rfl)) ka_nil) (fun _ _ _ _ _ _ _ I m q=>made_def I m q))) (kss_nil))
theorem sc_p24 : FnScope ["number", "hands"] ["number", "hands"] (defScope s_p24) := ⟨rfl, rfl, rfl, by decide +kernel, rfl, by decide +kernel, by decide +kernel⟩
def rd_p24 (K:PySem.W.Frag) (a:Ad) (E:XK):TS:=
    rdAskPlace a.c_NoHand E [116,104,101,114,101,32,105,115,32,110,111,32,115,117,99,104,32,104,97,110,100]
theorem pr_p24 (T:Tx K mg a) (hr:Room 0 (A.deeper (envOfC "ask_hand" (defScope s_p24) s.heap.objs.size f cdv))) :
    QSs (cxOf (CX1 P w) P w K mg base ["number", "hands"] "ask_hand" (defScope s_p24) f cdv A outer s H E) (defBody s_p24) (rd_p24 K a E) := by
  delta rd_p24 rdAskPlace
  exact kss_one (ks_if (kt_w (kw_or (kt_cmp op_lt (kv 0) ke_int) (kw_or1 (kt_cmp op_ge (kv 0) (kv 1))))) (kss_one (ks_raise PySem.F.excBase_ValueError T.x_NoHand T.m_NoHand (ka_cons (ke_txt (by kernel_rfl)) ka_nil) (fun _ _ _ _ _ _ _ I m q=>made_def I m q))) (kss_nil))
theorem sc_p0 : FnScope ["self", "letters", "hands", "number"] ["self", "letters", "hands", "number"] (defScope s_p0) := ⟨rfl, rfl, rfl, by decide +kernel, rfl, by decide +kernel, by decide +kernel⟩
def rd_p0 (K:PySem.W.Frag) (a:Ad) (E:XK):TS:=
    rdHInit K a.c_NoLetters a.c_NoHand E
theorem pr_p0 (T : Tx K mg a) (G_p25 : FnOk P w K mg base (CX1 P w) 1 a.f_p25 a.fd_p25 ["letters", "hands"] (spAskL a.c_NoLetters)) (G_p24 : FnOk P w K mg base (CX1 P w) 1 a.f_p24 a.fd_p24 ["number", "hands"] (spAskHand a.c_NoHand)) (hr : Room 1 (A.deeper (envOfC "Hand.__init__" (defScope s_p0) s.heap.objs.size f cdv))) :
    QSs (cxOf (CX1 P w) P w K mg base ["self", "letters", "hands", "number"] "Hand.__init__" (defScope s_p0) f cdv A outer s H E) (defBody s_p0) (rd_p0 K a E) := by
  delta rd_p0 rdHInit
  exact kss_cons (ks_expr (ke_call G_p25 (by exact hr.mono (by decide)) T.g_p25 T.F_p25.kp T.b_p25 pass_def (ka_cons (kv 1) (ka_cons (kv 2) ka_nil))))
      (kss_cons (ks_expr (ke_call G_p24 (by exact hr.mono (by decide)) T.g_p24 T.F_p24.kp T.b_p24 pass_def (ka_cons (kv 3) (ka_cons (kv 2) ka_nil))))
      (kss_cons (ks_nox (ks_fld (kv 0) (kv 1)))
      (kss_cons (ks_nox (ks_fld (kv 0) (kv 2)))
      (kss_cons (ks_nox (ks_fld (kv 0) (kv 3)))
      (kss_cons (ks_nox (ks_fld (kv 0) (ke_lst ka_nil)))
      (kss_cons (ks_nox (ks_fld (kv 0) ke_dnewK))
      (kss_one (ks_nox (ks_fld (kv 0) ke_dnewK)))))))))
theorem sc_p3:FnScope ["self"] ["self"] (defScope s_p3):=⟨rfl,rfl,rfl,by decide +kernel,rfl,by decide +kernel,by decide +kernel⟩
def rd_p3 (K:PySem.W.Frag) (a:Ad):TS:=
    rdHMarks K
theorem pr_p3 (T:Tx K mg a) (hr:Room 0 (A.deeper (envOfC "Hand.marks" (defScope s_p3) s.heap.objs.size f cdv))) :
    QSs (cxOf CX0 P w K mg base ["self"] "Hand.marks" (defScope s_p3) f cdv A outer s H E).nox (defBody s_p3) (rd_p3 K a):=by
  have hu:=Room.units hr
  delta rd_p3 rdHMarks
  exact kss_one (ks_ret (ke_comp [("self",0)] (ki_list (ke_callB (call_sortedD (by kernel_rfl)) T.n_sorted PyProof.Rows.Boot.«sorted» (ka_cons (ke_fld (kvc 0)) ka_nil))) (fun _ _ _ _ _=>⟨kts_one (kt_cmp (op_notInD hu) (kv 0) (ke_fld (kvc 1))),kv 0⟩)))
theorem sc_p2 : FnScope ["self", "low"] ["self", "low"] (defScope s_p2) := ⟨rfl, rfl, rfl, by decide +kernel, rfl, by decide +kernel, by decide +kernel⟩
def rd_p2 (K:PySem.W.Frag) (a:Ad):TS:=
    rdHBehind K
theorem pr_p2 (T:Tx K mg a) (hr:Room 0 (A.deeper (envOfC "Hand.first_behind" (defScope s_p2) s.heap.objs.size f cdv))) :
    QSs (cxOf CX0 P w K mg base ["self", "low"] "Hand.first_behind" (defScope s_p2) f cdv A outer s H E).nox (defBody s_p2) (rd_p2 K a) := by
  delta rd_p2 rdHBehind
  exact kss_one (ks_ret (ke_minD (ke_thaw (ke_comp [("low",1)] (ki_dict (ke_fld (kv 0))) (fun _ _ _ _ _=>⟨kts_one (kt_w (kw_or (kt_isN (kvc 1)) (kw_or1 (kt_cmp op_ltS (kvc 1) (kv 0))))),kv 0⟩))) ke_non T.n_min))
theorem sc_p5 : FnScope ["self", "place", "thing", "shown", "low", "mark"] ["self", "place", "thing"] (defScope s_p5) := ⟨rfl, rfl, rfl, by decide +kernel, rfl, by decide +kernel, by decide +kernel⟩
def rd_p5 (K:PySem.W.Frag) (a:Ad) (E:XK):TS:=
    rdHPut K a.k_Hand a.c_NoThing a.c_NoPlace a.c_NoRoom E
theorem pr_p5 (T : Tx K mg a) (G_p28 : FnOk P w K mg base (CX1 P w) 2 a.f_p28 a.fd_p28 ["text"] (spAskThing a.c_NoThing)) (G_p3 : FnOk P w K mg base CX0 1 a.f_p3 a.fd_p3 ["self"] (spHMarks a.k_Hand)) (G_p26 : FnOk P w K mg base (CX1 P w) 1 a.f_p26 a.fd_p26 ["place", "many"] (spAskPlace a.c_NoPlace)) (G_p2 : FnOk P w K mg base CX0 1 a.f_p2 a.fd_p2 ["self", "low"] (spHBehind K a.k_Hand)) (G_p37 : FnOk P w K mg base (CX1 P w) 6 a.f_p37 a.fd_p37 ["letters", "hands", "hand", "low", "high"] (spBetween a.c_NoRoom)) (hr : Room 6 (A.deeper (envOfC "Hand.put" (defScope s_p5) s.heap.objs.size f cdv))) :
    QSs (cxOf (CX1 P w) P w K mg base ["self", "place", "thing", "shown", "low", "mark"] "Hand.put" (defScope s_p5) f cdv A outer s H E) (defBody s_p5) (rd_p5 K a E) := by
  have hu:=Room.units hr
  delta rd_p5 rdHPut
  exact kss_cons (ks_expr (ke_call G_p28 (by exact hr.mono (by decide)) T.g_p28 T.F_p28.kp T.b_p28 pass_def (ka_cons (kv 2) ka_nil)))
      (kss_cons (ks_nox (ks_set (i:=3) sc_p5.nd (ke_meth0 (kv 0) T.K_Hand T.M_p3 G_p3 (by exact hr.mono (by decide)) T.b_p3 pass0)))
      (kss_cons (ks_expr (ke_call G_p26 (by exact hr.mono (by decide)) T.g_p26 T.F_p26.kp T.b_p26 pass_def (ka_cons (kv 1) (ka_cons (ke_op op_add (ke_callB call_len_seq T.n_len PyProof.Rows.Boot.«len» (ka_cons (kv 3) ka_nil)) ke_int) ka_nil))))
      (kss_cons (ks_nox (ks_set (i:=4) sc_p5.nd (ke_ifExp (kt_cmp op_gt (kv 1) ke_int) (ke_ix ix_list (kv 3) (ke_op op_sub (kv 1) ke_int)) ke_non)))
      (kss_cons (ks_set (i:=5) sc_p5.nd (ke_call G_p37 (by exact hr.mono (by decide)) T.g_p37 T.F_p37.kp T.b_p37 pass_def (ka_cons (ke_fld (kv 0)) (ka_cons (ke_fld (kv 0)) (ka_cons (ke_fld (kv 0)) (ka_cons (kv 4) (ka_cons (ke_meth (kv 0) T.K_Hand T.M_p2 G_p2 (by exact hr.mono (by decide)) T.b_p2 pass0 (ka_cons (kv 4) ka_nil)) ka_nil)))))))
      (kss_cons (ks_nox (ks_dput hu (ke_fld (kv 0)) (kv 5) (kv 2)))
      (kss_one (ks_nox (ks_ret (kv 5)))))))))
theorem sc_p8 : FnScope ["self", "place", "shown"] ["self", "place"] (defScope s_p8) := ⟨rfl, rfl, rfl, by decide +kernel, rfl, by decide +kernel, by decide +kernel⟩
def rd_p8 (K:PySem.W.Frag) (a:Ad) (E:XK):TS:=
    rdHTake K a.k_Hand a.c_NoPlace E
theorem pr_p8 (T : Tx K mg a) (G_p3 : FnOk P w K mg base CX0 1 a.f_p3 a.fd_p3 ["self"] (spHMarks a.k_Hand)) (G_p26 : FnOk P w K mg base (CX1 P w) 1 a.f_p26 a.fd_p26 ["place", "many"] (spAskPlace a.c_NoPlace)) (hr : Room 1 (A.deeper (envOfC "Hand.take" (defScope s_p8) s.heap.objs.size f cdv))) :
    QSs (cxOf (CX1 P w) P w K mg base ["self", "place", "shown"] "Hand.take" (defScope s_p8) f cdv A outer s H E) (defBody s_p8) (rd_p8 K a E) := by
  have hu:=Room.units hr
  delta rd_p8 rdHTake
  exact kss_cons (ks_nox (ks_set (i:=2) sc_p8.nd (ke_meth0 (kv 0) T.K_Hand T.M_p3 G_p3 (by exact hr.mono (by decide)) T.b_p3 pass0)))
      (kss_cons (ks_expr (ke_call G_p26 (by exact hr.mono (by decide)) T.g_p26 T.F_p26.kp T.b_p26 pass_def (ka_cons (kv 1) (ka_cons (ke_callB call_len_seq T.n_len PyProof.Rows.Boot.«len» (ka_cons (kv 2) ka_nil)) ka_nil))))
      (kss_cons (ks_nox (ks_dput hu (ke_fld (kv 0)) (ke_ix ix_list (kv 2) (kv 1)) ke_bl))
      (kss_one (ks_nox (ks_ret (ke_ix ix_list (kv 2) (kv 1)))))))
theorem sc_p6 : FnScope ["self", "known", "rows"] ["self"] (defScope s_p6) := ⟨rfl, rfl, rfl, by decide +kernel, rfl, by decide +kernel, by decide +kernel⟩
def rd_p6 (K:PySem.W.Frag) (a:Ad) (E:XK):TS:=
    rdHRenew K a.c_NoHand [116,104,101,32,104,97,110,100,32,48,32,97,108,111,110,101,32,109,97,107,101,115,32,114,101,110,101,119,97,108,115] E
theorem pr_p6 (T : Tx K mg a) (G_p44 : FnOk P w K mg base CX0 3 a.f_p44 a.fd_p44 ["letters", "known"] (spRows K)) (hr : Room 3 (A.deeper (envOfC "Hand.renew" (defScope s_p6) s.heap.objs.size f cdv))) :
    QSs (cxOf (CX1 P w) P w K mg base ["self", "known", "rows"] "Hand.renew" (defScope s_p6) f cdv A outer s H E) (defBody s_p6) (rd_p6 K a E) := by
  have hu:=Room.units hr
  delta rd_p6 rdHRenew
  exact kss_cons (ks_if (kt_cmp op_ne (ke_fld (kvc 0)) ke_int) (kss_one (ks_raise PySem.F.excBase_ValueError T.x_NoHand T.m_NoHand (ka_cons (ke_txt (by kernel_rfl)) ka_nil) (fun _ _ _ _ _ _ _ I m q=>made_def I m q))) (kss_nil))
      (kss_cons (ks_nox (ks_comp (i:=1) [("self",0)] sc_p6.nd (ki_list (ke_callB (call_sortedD (by kernel_rfl)) T.n_sorted PyProof.Rows.Boot.«sorted» (ka_cons (ke_fld (kvc 0)) ka_nil))) (fun _ _ _ _ _=>⟨kts_nil,ke_tup (ka_cons (kv 0) (ka_cons (ke_cmp (op_notInD hu) (kv 0) (ke_fld (kvc 1))) ka_nil))⟩)))
      (kss_cons (ks_nox (ks_set (i:=2) sc_p6.nd (ke_call G_p44 (by exact hr.mono (by decide)) T.g_p44 T.F_p44.kp T.b_p44 pass0 (ka_cons (ke_fld (kvc 0)) (ka_cons (kv 1) ka_nil)))))
      (kss_cons (ks_nox (ks_fld (kvc 0) (ke_callTy (call_dictOf (by kernel_rfl)) T.n_dict PyProof.Rows.Boot.«dict» (ka_cons (ke_comp2 [("self",0)] (ki_list (kv 2)) (fun _ _ _ _ _=>⟨kts_one (kt_notN (kv 1)),ke_tup (ka_cons (kv 1) (ka_cons (ke_dget hu (ke_fld (kvc 2)) (kv 0)) ka_nil))⟩)) ka_nil))))
      (kss_cons (ks_nox (ks_fld (kvc 0) ke_dnewK))
      (kss_cons (ks_nox (ks_expr (ke_bm PySem.F.plainAttrs_list PySem.F.slot_list_append PySem.F.type_list_append mt_append (ke_fld (kvc 0)) (ka_cons (kv 2) ka_nil))))
      (kss_one (ks_nox (ks_ret (ke_callTy call_list_of T.n_list PyProof.Rows.Boot.«list» (ka_cons (kv 2) ka_nil))))))))))
theorem sc_p9:FnScope ["self"] ["self"] (defScope s_p9):=⟨rfl,rfl,rfl,by decide +kernel,rfl,by decide +kernel,by decide +kernel⟩
def rd_p9 (K:PySem.W.Frag) (a:Ad):TS:=
    rdHThings K a.k_Hand
theorem pr_p9 (T : Tx K mg a) (G_p3 : FnOk P w K mg base CX0 1 a.f_p3 a.fd_p3 ["self"] (spHMarks a.k_Hand)) (hr : Room 1 (A.deeper (envOfC "Hand.things" (defScope s_p9) s.heap.objs.size f cdv))) :
    QSs (cxOf CX0 P w K mg base ["self"] "Hand.things" (defScope s_p9) f cdv A outer s H E).nox (defBody s_p9) (rd_p9 K a):=by
  have hu:=Room.units hr
  delta rd_p9 rdHThings
  exact kss_one (ks_ret (ke_comp [("self",0)] (ki_list (ke_meth0 (kvc 0) T.K_Hand T.M_p3 G_p3 (by exact hr.mono (by decide)) T.b_p3 pass0)) (fun _ _ _ _ _=>⟨kts_nil,ke_dget hu (ke_fld (kvc 1)) (kv 0)⟩)))
theorem sc_p1:FnScope ["self"] ["self"] (defScope s_p1):=⟨rfl,rfl,rfl,by decide +kernel,rfl,by decide +kernel,by decide +kernel⟩
def rd_p1 (K:PySem.W.Frag) (a:Ad):TS:=
    tRet (tCB (rLenL K) (tCons (tFld K (tVar 0) "renewals") tNil))
theorem pr_p1 (T:Tx K mg a) (hr:Room 0 (A.deeper (envOfC "Hand.age" (defScope s_p1) s.heap.objs.size f cdv))) :
    QSs (cxOf CX0 P w K mg base ["self"] "Hand.age" (defScope s_p1) f cdv A outer s H E).nox (defBody s_p1) (rd_p1 K a):=by
  exact kss_one (ks_ret (ke_callB call_len_seq T.n_len PyProof.Rows.Boot.«len» (ka_cons (ke_fld (kv 0)) ka_nil)))
theorem sc_p4:FnScope ["self"] ["self"] (defScope s_p4):=⟨rfl,rfl,rfl,by decide +kernel,rfl,by decide +kernel,by decide +kernel⟩
def rd_p4 (K:PySem.W.Frag) (a:Ad):TS:=
    tRet (tFld K (tVar 0) "own_number")
theorem pr_p4 (T:Tx K mg a) (hr:Room 0 (A.deeper (envOfC "Hand.number" (defScope s_p4) s.heap.objs.size f cdv))) :
    QSs (cxOf CX0 P w K mg base ["self"] "Hand.number" (defScope s_p4) f cdv A outer s H E).nox (defBody s_p4) (rd_p4 K a):=by
  exact kss_one (ks_ret (ke_fld (kv 0)))
theorem sc_p7 : FnScope ["self", "things"] ["self"] (defScope s_p7) := ⟨rfl, rfl, rfl, by decide +kernel, rfl, by decide +kernel, by decide +kernel⟩
def rd_p7 (K:PySem.W.Frag) (a:Ad):TS:=
    rdHState K
theorem pr_p7 (T : Tx K mg a) (G_p49 : FnOk P w K mg base CX0 1 a.f_p49 a.fd_p49 ["letters", "hands", "renewals", "things", "taken"] spStateOf) (hr : Room 1 (A.deeper (envOfC "Hand.state" (defScope s_p7) s.heap.objs.size f cdv))) :
    QSs (cxOf CX0 P w K mg base ["self", "things"] "Hand.state" (defScope s_p7) f cdv A outer s H E).nox (defBody s_p7) (rd_p7 K a) := by
  delta rd_p7 rdHState
  exact kss_cons (ks_set (i:=1) sc_p7.nd (ke_callB (call_sortedI (by kernel_rfl)) T.n_sorted PyProof.Rows.Boot.«sorted» (ka_cons (ke_bm0 PySem.F.plainAttrs_dict PySem.F.slot_dict_items PySem.F.type_dict_items mt_items (ke_fld (kv 0))) ka_nil)))
      (kss_one (ks_ret (ke_call G_p49 (by exact hr.mono (by decide)) T.g_p49 T.F_p49.kp T.b_p49 pass0 (ka_cons (ke_fld (kv 0)) (ka_cons (ke_fld (kv 0)) (ka_cons (ke_fld (kv 0)) (ka_cons (kv 1) (ka_cons (ke_callB (call_sortedD (by kernel_rfl)) T.n_sorted PyProof.Rows.Boot.«sorted» (ka_cons (ke_fld (kv 0)) ka_nil)) ka_nil))))))))
theorem sc_draw : FnScope ["_law_script", "_law_k", "_law_many", "_law_cell", "_law_seed"] ["_law_script", "_law_k", "_law_many"] (defScope s_draw) := ⟨rfl, rfl, rfl, by decide +kernel, rfl, by decide +kernel, by decide +kernel⟩
def rd_draw (K:PySem.W.Frag) (a:Ad):TS:=
    rdDraw K
theorem pr_draw (T:Tx K mg a) (hr:Room 0 (A.deeper (envOfC "_law_draw" (defScope s_draw) s.heap.objs.size f cdv))) :
    QSs (cxOf CX0 P w K mg base ["_law_script", "_law_k", "_law_many", "_law_cell", "_law_seed"] "_law_draw" (defScope s_draw) f cdv A outer s H E).nox (defBody s_draw) (rd_draw K a) := by
  delta rd_draw rdDraw
  exact kss_cons (ks_set (i:=3) sc_draw.nd (ke_ifExp (kt_cmp op_gt (ke_callB call_len_seq T.n_len PyProof.Rows.Boot.«len» (ka_cons (kv 0) ka_nil)) ke_int) (ke_ix ix_list (kv 0) (ke_op op_mod (kv 1) (ke_callB call_len_seq T.n_len PyProof.Rows.Boot.«len» (ka_cons (kv 0) ka_nil)))) ke_int))
      (kss_cons (ks_if (kt_w (kw_and (kt_cmp op_gt (ke_callB call_len_seq T.n_len PyProof.Rows.Boot.«len» (ka_cons (kv 0) ka_nil)) ke_int) (kw_and1 (kt_cmp op_eq (ke_op op_mod (ke_ix ix_list (kv 0) ke_int) ke_int) ke_int)))) (kss_one (ks_ret (ke_op op_mod (ke_op op_mod (ke_op op_shr (kv 3) (ke_op op_add (ke_op op_mulB ke_int (ke_op op_fdiv (kv 1) (ke_callB call_len_seq T.n_len PyProof.Rows.Boot.«len» (ka_cons (kv 0) ka_nil)))) ke_int)) ke_int) (kv 2)))) (kss_nil))
      (kss_cons (ks_set (i:=4) sc_draw.nd (ke_op op_add (ke_op op_add (ke_op op_mod (kv 3) ke_int) (ke_op op_mulB (ke_op op_mulB ke_int (kv 1)) (kv 1))) ke_int))
      (kss_one (ks_ret (ke_op op_mod (ke_op op_mod (ke_op op_mulB (ke_op op_mod (ke_op op_mulB (kv 4) ke_int) ke_int) ke_int) ke_int) (kv 2))))))
theorem sc_size : FnScope ["_law_script", "_law_letters", "_law_hands"] ["_law_script"] (defScope s_size) := ⟨rfl, rfl, rfl, by decide +kernel, rfl, by decide +kernel, by decide +kernel⟩
def rd_size (K:PySem.W.Frag) (a:Ad):TS:=
    tSeq (tAsg (tOp (rIxL K) (tLst (tCons (tC (.int 2)) (tCons (tC (.int 3)) (tCons (tC (.int 4)) (tCons (tC (.int 5)) (tCons (tC (.int 10)) (tCons (tC (.int 26)) tNil))))))) (tCall (spDraw K) [] E0 (tCons (tVar 0) (tCons (tC (.int 0)) (tCons (tC (.int 6)) tNil))))) (gName 1))
      (tSeq (tAsg (tOp rAddI (tC (.int 1)) (tCall (spDraw K) [] E0 (tCons (tVar 0) (tCons (tC (.int 1)) (tCons (tCB rMin2 (tCons (tC (.int 4)) (tCons (tOp rSubI (tVar 1) (tC (.int 1))) tNil))) tNil))))) (gName 2))
      (tRet (tTup (tCons (tVar 1) (tCons (tIf (tTest (tOp rEq (tCall (spDraw K) [] E0 (tCons (tVar 0) (tCons (tC (.int 2)) (tCons (tC (.int 8)) tNil)))) (tC (.int 0)))) (tOp rSubI (tVar 1) (tC (.int 1))) (tVar 2)) tNil)))))
theorem pr_size (T : Tx K mg a) (G_draw : FnOk P w K mg base CX0 1 a.f_draw a.fd_draw ["_law_script", "_law_k", "_law_many"] (spDraw K)) (hr : Room 1 (A.deeper (envOfC "_law_size" (defScope s_size) s.heap.objs.size f cdv))) :
    QSs (cxOf CX0 P w K mg base ["_law_script", "_law_letters", "_law_hands"] "_law_size" (defScope s_size) f cdv A outer s H E).nox (defBody s_size) (rd_size K a) := by
  exact kss_cons (ks_set (i:=1) sc_size.nd (ke_ix ix_list (ke_lst (ka_cons ke_int (ka_cons ke_int (ka_cons ke_int (ka_cons ke_int (ka_cons ke_int (ka_cons ke_int ka_nil))))))) (ke_call G_draw (by exact hr.mono (by decide)) T.g_draw T.F_draw.kp T.b_draw pass0 (ka_cons (kv 0) (ka_cons ke_int (ka_cons ke_int ka_nil))))))
      (kss_cons (ks_set (i:=2) sc_size.nd (ke_op op_add ke_int (ke_call G_draw (by exact hr.mono (by decide)) T.g_draw T.F_draw.kp T.b_draw pass0 (ka_cons (kv 0) (ka_cons ke_int (ka_cons (ke_callB (call_min2 (by kernel_rfl)) T.n_min PyProof.Rows.Boot.«min» (ka_cons ke_int (ka_cons (ke_op op_sub (kv 1) ke_int) ka_nil))) ka_nil))))))
      (kss_one (ks_ret (ke_tup (ka_cons (kv 1) (ka_cons (ke_ifExp (kt_cmp op_eq (ke_call G_draw (by exact hr.mono (by decide)) T.g_draw T.F_draw.kp T.b_draw pass0 (ka_cons (kv 0) (ka_cons ke_int (ka_cons ke_int ka_nil)))) ke_int) (ke_op op_sub (kv 1) ke_int) (kv 2)) ka_nil))))))
theorem sc_whole : FnScope ["_law_letters", "_law_mark_here", "_law_long", "_law_whole_here", "_law_k"] ["_law_letters", "_law_mark_here", "_law_long"] (defScope s_whole) := ⟨rfl, rfl, rfl, by decide +kernel, rfl, by decide +kernel, by decide +kernel⟩
def rd_whole (K:PySem.W.Frag) (a:Ad):TS:=
    rdLWhole2 K
theorem pr_whole (T:Tx K mg a) (hr:Room 0 (A.deeper (envOfC "_law_whole" (defScope s_whole) s.heap.objs.size f cdv))) :
    QSs (cxOf CX0 P w K mg base ["_law_letters", "_law_mark_here", "_law_long", "_law_whole_here", "_law_k"] "_law_whole" (defScope s_whole) f cdv A outer s H E).nox (defBody s_whole) (rd_whole K a) := by
  delta rd_whole rdLWhole2
  exact kss_cons (ks_set (i:=3) sc_whole.nd ke_int)
      (kss_cons (ks_for (ki_range1 T.n_range (ka_cons (kv 2) ka_nil)) (kg_name (i:=4) sc_whole.nd) (kss_cons (ks_set (i:=3) sc_whole.nd (ke_op op_mulB (kv 3) (kv 0)))
      (kss_one (ks_if (kt_cmp op_lt (kv 4) (ke_callB call_lenS T.n_len PyProof.Rows.Boot.«len» (ka_cons (kv 1) ka_nil))) (kss_one (ks_set (i:=3) sc_whole.nd (ke_op op_add (kv 3) (ke_bm PySem.F.plainAttrs_str PySem.F.slot_str_index PySem.F.type_str_index mt_index (ke_txt small_eq) (ka_cons (ke_ix ix_strL (kv 1) (kv 4)) ka_nil))))) (kss_nil)))))
      (kss_one (ks_ret (kv 3))))
theorem sc_mark : FnScope ["_law_letters", "_law_number", "_law_long", "_law_text", "_law_k"] ["_law_letters", "_law_number", "_law_long"] (defScope s_mark) := ⟨rfl, rfl, rfl, by decide +kernel, rfl, by decide +kernel, by decide +kernel⟩
def rd_mark (K:PySem.W.Frag) (a:Ad):TS:=
    rdText K
theorem pr_mark (T:Tx K mg a) (hr:Room 0 (A.deeper (envOfC "_law_mark" (defScope s_mark) s.heap.objs.size f cdv))) :
    QSs (cxOf CX0 P w K mg base ["_law_letters", "_law_number", "_law_long", "_law_text", "_law_k"] "_law_mark" (defScope s_mark) f cdv A outer s H E).nox (defBody s_mark) (rd_mark K a) := by
  delta rd_mark rdText
  exact kss_cons (ks_set (i:=3) sc_mark.nd (ke_txt (by kernel_rfl)))
      (kss_cons (ks_for (ki_range1 T.n_range (ka_cons (kv 2) ka_nil)) (kg_name (i:=4) sc_mark.nd) (kss_cons (ks_set (i:=3) sc_mark.nd (ke_op op_addS (ke_ix ix_strL (ke_txt small_eq) (ke_op op_mod (kv 1) (kv 0))) (kv 3)))
      (kss_one (ks_set (i:=1) sc_mark.nd (ke_op op_fdiv (kv 1) (kv 0))))))
      (kss_one (ks_ret (ke_bm PySem.F.plainAttrs_str PySem.F.slot_str_rstrip PySem.F.type_str_rstrip mt_rstrip (kv 3) (ka_cons (ke_txt (by kernel_rfl)) ka_nil)))))
theorem sc_some : FnScope ["_law_letters", "_law_hands", "_law_hand", "_law_low", "_law_high", "_law_long", "_law_most", "_law_k", "_law_least", "_law_some_here", "_law_number"] ["_law_letters", "_law_hands", "_law_hand", "_law_low", "_law_high", "_law_long"] (defScope s_some) := ⟨rfl, rfl, rfl, by decide +kernel, rfl, by decide +kernel, by decide +kernel⟩
def rd_some (K:PySem.W.Frag) (a:Ad):TS:=
    rdLSome K
theorem pr_some (T : Tx K mg a) (G_whole : FnOk P w K mg base CX0 1 a.f_whole a.fd_whole ["_law_letters", "_law_mark_here", "_law_long"] spLWhole) (hr : Room 1 (A.deeper (envOfC "_law_some" (defScope s_some) s.heap.objs.size f cdv))) :
    QSs (cxOf CX0 P w K mg base ["_law_letters", "_law_hands", "_law_hand", "_law_low", "_law_high", "_law_long", "_law_most", "_law_k", "_law_least", "_law_some_here", "_law_number"] "_law_some" (defScope s_some) f cdv A outer s H E).nox (defBody s_some) (rd_some K a) := by
  delta rd_some rdLSome
  exact kss_cons (ks_set (i:=6) sc_some.nd ke_int)
      (kss_cons (ks_for (ki_range1 T.n_range (ka_cons (kv 5) ka_nil)) (kg_name (i:=7) sc_some.nd) (kss_one (ks_set (i:=6) sc_some.nd (ke_op op_mulB (kv 6) (kv 0)))))
      (kss_cons (ks_set (i:=6) sc_some.nd (ke_op op_sub (kv 6) ke_int))
      (kss_cons (ks_set (i:=8) sc_some.nd ke_int)
      (kss_cons (ks_if (kt_notN (kv 3)) (kss_one (ks_set (i:=8) sc_some.nd (ke_op op_add (ke_call G_whole (by exact hr.mono (by decide)) T.g_whole T.F_whole.kp T.b_whole pass0 (ka_cons (kv 0) (ka_cons (kv 3) (ka_cons (kv 5) ka_nil)))) ke_int))) (kss_nil))
      (kss_cons (ks_if (kt_notN (kv 4)) (kss_one (ks_set (i:=6) sc_some.nd (ke_op op_sub (ke_call G_whole (by exact hr.mono (by decide)) T.g_whole T.F_whole.kp T.b_whole pass0 (ka_cons (kv 0) (ka_cons (kv 4) (ka_cons (kv 5) ka_nil)))) (ke_callTy call_int1 T.n_int PyProof.Rows.Boot.«int» (ka_cons (ke_cmp op_le (ke_callB call_lenS T.n_len PyProof.Rows.Boot.«len» (ka_cons (kv 4) ka_nil)) (kv 5)) ka_nil))))) (kss_nil))
      (kss_cons (ks_set (i:=9) sc_some.nd (ke_lst ka_nil))
      (kss_cons (ks_for (ki_range2B T.n_range (ka_cons (kv 8) (ka_cons (ke_op op_add (kv 6) ke_int) ka_nil))) (kg_name (i:=10) sc_some.nd) (kss_one (ks_if (kt_w (kw_and (kt_cmp op_gt (ke_op op_mod (kv 10) (kv 0)) ke_int) (kw_and1 (kt_cmp op_eq (ke_op op_mod (ke_op op_sub (ke_op op_mod (kv 10) (kv 0)) ke_int) (kv 1)) (kv 2))))) (kss_one (ks_expr (ke_bm PySem.F.plainAttrs_list PySem.F.slot_list_append PySem.F.type_list_append mt_append (kv 9) (ka_cons (kv 10) ka_nil)))) (kss_nil))))
      (kss_one (ks_ret (kv 9))))))))))
theorem sc_between : FnScope ["_law_letters", "_law_hands", "_law_hand", "_law_low", "_law_high", "_law_some_here", "_law_long", "_law_number"] ["_law_letters", "_law_hands", "_law_hand", "_law_low", "_law_high"] (defScope s_between) := ⟨rfl, rfl, rfl, by decide +kernel, rfl, by decide +kernel, by decide +kernel⟩
def rd_between (K:PySem.W.Frag) (a:Ad):TS:=
    rdHBetween K
theorem pr_between (T : Tx K mg a) (G_some : FnOk P w K mg base CX0 2 a.f_some a.fd_some ["_law_letters", "_law_hands", "_law_hand", "_law_low", "_law_high", "_law_long"] spLSome) (G_mark : FnOk P w K mg base CX0 1 a.f_mark a.fd_mark ["_law_letters", "_law_number", "_law_long"] spText) (hr : Room 2 (A.deeper (envOfC "_law_between" (defScope s_between) s.heap.objs.size f cdv))) :
    QSs (cxOf CX0 P w K mg base ["_law_letters", "_law_hands", "_law_hand", "_law_low", "_law_high", "_law_some_here", "_law_long", "_law_number"] "_law_between" (defScope s_between) f cdv A outer s H E).nox (defBody s_between) (rd_between K a) := by
  delta rd_between rdHBetween
  exact kss_cons (ks_set (i:=5) sc_between.nd (ke_lst ka_nil))
      (kss_cons (ks_set (i:=6) sc_between.nd ke_int)
      (kss_cons (ks_while (kt_cmp op_eq (ke_callB call_len_seq T.n_len PyProof.Rows.Boot.«len» (ka_cons (kv 5) ka_nil)) ke_int) (kss_cons (ks_set (i:=6) sc_between.nd (ke_op op_add (kv 6) ke_int))
      (kss_one (ks_set (i:=5) sc_between.nd (ke_call G_some (by exact hr.mono (by decide)) T.g_some T.F_some.kp T.b_some pass0 (ka_cons (kv 0) (ka_cons (kv 1) (ka_cons (kv 2) (ka_cons (kv 3) (ka_cons (kv 4) (ka_cons (kv 6) ka_nil)))))))))))
      (kss_cons (ks_set (i:=7) sc_between.nd (ke_op op_fdiv (ke_op op_sub (ke_callB call_len_seq T.n_len PyProof.Rows.Boot.«len» (ka_cons (kv 5) ka_nil)) ke_int) ke_int))
      (kss_cons (ks_if (kt_w (kw_and (kt_notN (kv 3)) (kw_and1 (kt_isN (kv 4))))) (kss_one (ks_set (i:=7) sc_between.nd ke_int)) (kss_nil))
      (kss_cons (ks_if (kt_w (kw_and (kt_isN (kv 3)) (kw_and1 (kt_notN (kv 4))))) (kss_one (ks_set (i:=7) sc_between.nd (ke_op op_sub (ke_callB call_len_seq T.n_len PyProof.Rows.Boot.«len» (ka_cons (kv 5) ka_nil)) ke_int))) (kss_nil))
      (kss_one (ks_ret (ke_call G_mark (by exact hr.mono (by decide)) T.g_mark T.F_mark.kp T.b_mark pass0 (ka_cons (kv 0) (ka_cons (ke_ix ix_list (kv 5) (kv 7)) (ka_cons (kv 6) ka_nil)))))))))))
theorem sc_rows : FnScope ["_law_letters", "_law_model", "_law_known", "_law_many", "_law_count", "_law_long", "_law_rows_here", "_law_k", "_law_mark_here", "_law_fresh"] ["_law_letters", "_law_model"] (defScope s_rows) := ⟨rfl, rfl, rfl, by decide +kernel, rfl, by decide +kernel, by decide +kernel⟩
def rd_rows (K:PySem.W.Frag) (a:Ad):TS:=
    rdLRows K
theorem pr_rows (T : Tx K mg a) (G_mark : FnOk P w K mg base CX0 1 a.f_mark a.fd_mark ["_law_letters", "_law_number", "_law_long"] spText) (hr : Room 1 (A.deeper (envOfC "_law_rows" (defScope s_rows) s.heap.objs.size f cdv))) :
    QSs (cxOf CX0 P w K mg base ["_law_letters", "_law_model", "_law_known", "_law_many", "_law_count", "_law_long", "_law_rows_here", "_law_k", "_law_mark_here", "_law_fresh"] "_law_rows" (defScope s_rows) f cdv A outer s H E).nox (defBody s_rows) (rd_rows K a) := by
  have hu:=Room.units hr
  delta rd_rows rdLRows
  exact kss_cons (ks_set (i:=2) sc_rows.nd (ke_callB (call_sortedD (by kernel_rfl)) T.n_sorted PyProof.Rows.Boot.«sorted» (ka_cons (ke_dget hu (kv 1) (ke_txt (by kernel_rfl))) ka_nil)))
      (kss_cons (ks_set (i:=3) sc_rows.nd (ke_op op_sub (ke_callB call_len_seq T.n_len PyProof.Rows.Boot.«len» (ka_cons (kv 2) ka_nil)) (ke_callB call_lenD T.n_len PyProof.Rows.Boot.«len» (ka_cons (ke_dget hu (kv 1) (ke_txt (by kernel_rfl))) ka_nil))))
      (kss_cons (ks_set (i:=4) sc_rows.nd ke_int)
      (kss_cons (ks_set (i:=5) sc_rows.nd ke_int)
      (kss_cons (ks_while (kt_cmp op_lt (ke_op op_sub (kv 4) ke_int) (kv 3)) (kss_cons (ks_set (i:=4) sc_rows.nd (ke_op op_mulB (kv 4) (kv 0)))
      (kss_one (ks_set (i:=5) sc_rows.nd (ke_op op_add (kv 5) ke_int)))))
      (kss_cons (ks_set (i:=6) sc_rows.nd (ke_lst ka_nil))
      (kss_cons (ks_set (i:=7) sc_rows.nd ke_int)
      (kss_cons (ks_for (ki_list (kv 2)) (kg_name (i:=8) sc_rows.nd) (kss_cons (ks_set (i:=9) sc_rows.nd ke_non)
      (kss_cons (ks_if (kt_cmp (op_notInD hu) (kv 8) (ke_dget hu (kv 1) (ke_txt (by kernel_rfl)))) (kss_cons (ks_set (i:=7) sc_rows.nd (ke_op op_add (kv 7) ke_int))
      (kss_one (ks_set (i:=9) sc_rows.nd (ke_call G_mark (by exact hr.mono (by decide)) T.g_mark T.F_mark.kp T.b_mark pass0 (ka_cons (kv 0) (ka_cons (ke_op op_fdiv (ke_op op_mulB (kv 7) (kv 4)) (ke_op op_add (kv 3) ke_int)) (ka_cons (kv 5) ka_nil))))))) (kss_nil))
      (kss_one (ks_expr (ke_bm PySem.F.plainAttrs_list PySem.F.slot_list_append PySem.F.type_list_append mt_append (kv 6) (ka_cons (ke_tup (ka_cons (kv 8) (ka_cons (kv 9) ka_nil))) ka_nil)))))))
      (kss_one (ks_ret (kv 6))))))))))
theorem sc_shown:FnScope ["_law_model"] ["_law_model"] (defScope s_shown):=⟨rfl,rfl,rfl,by decide +kernel,rfl,by decide +kernel,by decide +kernel⟩
def rd_shown (K:PySem.W.Frag) (a:Ad):TS:=
    rdLShown K
theorem pr_shown (T:Tx K mg a) (hr:Room 0 (A.deeper (envOfC "_law_shown" (defScope s_shown) s.heap.objs.size f cdv))) :
    QSs (cxOf CX0 P w K mg base ["_law_model"] "_law_shown" (defScope s_shown) f cdv A outer s H E).nox (defBody s_shown) (rd_shown K a):=by
  have hu:=Room.units hr
  delta rd_shown rdLShown
  exact kss_one (ks_ret (ke_comp [("_law_model",0)] (ki_list (ke_callB (call_sortedD (by kernel_rfl)) T.n_sorted PyProof.Rows.Boot.«sorted» (ka_cons (ke_dget hu (kvc 0) (ke_txt (by kernel_rfl))) ka_nil))) (fun _ _ _ _ _=>⟨kts_one (kt_cmp (op_notInD hu) (kv 0) (ke_dget hu (kvc 1) (ke_txt (by kernel_rfl)))),kv 0⟩)))
theorem sc_state : FnScope ["_law_size_here", "_law_model", "_law_things"] ["_law_size_here", "_law_model"] (defScope s_state) := ⟨rfl, rfl, rfl, by decide +kernel, rfl, by decide +kernel, by decide +kernel⟩
def rd_state (K:PySem.W.Frag) (a:Ad):TS:=
    rdLState K
theorem pr_state (T:Tx K mg a) (hr:Room 0 (A.deeper (envOfC "_law_state" (defScope s_state) s.heap.objs.size f cdv))) :
    QSs (cxOf CX0 P w K mg base ["_law_size_here", "_law_model", "_law_things"] "_law_state" (defScope s_state) f cdv A outer s H E).nox (defBody s_state) (rd_state K a) := by
  have hu:=Room.units hr
  delta rd_state rdLState
  exact kss_cons (ks_comp (i:=2) [("_law_model",1)] sc_state.nd (ki_list (ke_callB (call_sortedD (by kernel_rfl)) T.n_sorted PyProof.Rows.Boot.«sorted» (ka_cons (ke_dget hu (kvc 1) (ke_txt (by kernel_rfl))) ka_nil))) (fun _ _ _ _ _=>⟨kts_nil,ke_tup (ka_cons (kv 0) (ka_cons (ke_dget hu (ke_dget hu (kvc 1) (ke_txt (by kernel_rfl))) (kv 0)) ka_nil))⟩))
      (kss_one (ks_ret (ke_tup (ka_cons (ke_ix ix_tup (kv 0) ke_int) (ka_cons (ke_ix ix_tup (kv 0) ke_int) (ka_cons (ke_comp [] (ki_list (ke_dget hu (kvc 1) (ke_txt (by kernel_rfl)))) (fun _ _ _ _ _=>⟨kts_nil,ke_callTy call_list_of T.n_list PyProof.Rows.Boot.«list» (ka_cons (kv 0) ka_nil)⟩)) (ka_cons (kv 2) (ka_cons (ke_callB (call_sortedD (by kernel_rfl)) T.n_sorted PyProof.Rows.Boot.«sorted» (ka_cons (ke_dget hu (kvc 1) (ke_txt (by kernel_rfl))) ka_nil)) ka_nil))))))))
theorem sc_put : FnScope ["_law_size_here", "_law_hand", "_law_model", "_law_place", "_law_thing_here", "_law_shown_here", "_law_low", "_law_behind", "_law_mark_here"] ["_law_size_here", "_law_hand", "_law_model", "_law_place", "_law_thing_here"] (defScope s_put) := ⟨rfl, rfl, rfl, by decide +kernel, rfl, by decide +kernel, by decide +kernel⟩
def rd_put (K:PySem.W.Frag) (a:Ad):TS:=
    rdLPut K
theorem pr_put (T : Tx K mg a) (G_shown : FnOk P w K mg base CX0 1 a.f_shown a.fd_shown ["_law_model"] spLShown) (G_between : FnOk P w K mg base CX0 3 a.f_between a.fd_between ["_law_letters", "_law_hands", "_law_hand", "_law_low", "_law_high"] spHBetween) (hr : Room 3 (A.deeper (envOfC "_law_put" (defScope s_put) s.heap.objs.size f cdv))) :
    QSs (cxOf CX0 P w K mg base ["_law_size_here", "_law_hand", "_law_model", "_law_place", "_law_thing_here", "_law_shown_here", "_law_low", "_law_behind", "_law_mark_here"] "_law_put" (defScope s_put) f cdv A outer s H E).nox (defBody s_put) (rd_put K a) := by
  have hu:=Room.units hr
  delta rd_put rdLPut
  exact kss_cons (ks_set (i:=5) sc_put.nd (ke_call G_shown (by exact hr.mono (by decide)) T.g_shown T.F_shown.kp T.b_shown pass0 (ka_cons (kv 2) ka_nil)))
      (kss_cons (ks_setc (i:=6) sc_put.nd (ke_ifExp (kt_cmp op_gt (kv 3) ke_int) (ke_ix ix_list (kv 5) (ke_op op_sub (kv 3) ke_int)) ke_non))
      (kss_cons (ks_comp (i:=7) [("_law_low",6)] sc_put.nd (ki_list (ke_callB (call_sortedD (by kernel_rfl)) T.n_sorted PyProof.Rows.Boot.«sorted» (ka_cons (ke_dget hu (kv 2) (ke_txt (by kernel_rfl))) ka_nil))) (fun _ _ _ _ _=>⟨kts_one (kt_w (kw_or (kt_isN (kvc 1)) (kw_or1 (kt_cmp op_ltS (kvc 1) (kv 0))))),kv 0⟩))
      (kss_cons (ks_set (i:=8) sc_put.nd (ke_call G_between (by exact hr.mono (by decide)) T.g_between T.F_between.kp T.b_between pass0 (ka_cons (ke_ix ix_tup (kv 0) ke_int) (ka_cons (ke_ix ix_tup (kv 0) ke_int) (ka_cons (kv 1) (ka_cons (kvc 6) (ka_cons (ke_ifExp (kt_cmp op_gt (ke_callB call_len_seq T.n_len PyProof.Rows.Boot.«len» (ka_cons (kv 7) ka_nil)) ke_int) (ke_ix ix_list (kv 7) ke_int) ke_non) ka_nil)))))))
      (kss_cons (ks_dput hu (ke_dget hu (kv 2) (ke_txt (by kernel_rfl))) (kv 8) (kv 4))
      (kss_one (ks_ret (kv 8)))))))
theorem sc_thing : FnScope ["_law_script", "_law_k", "_law_some_here"] ["_law_script", "_law_k"] (defScope s_thing) := ⟨rfl, rfl, rfl, by decide +kernel, rfl, by decide +kernel, by decide +kernel⟩
def rd_thing (K:PySem.W.Frag) (a:Ad):TS:=
    rdHThing K
theorem pr_thing (T : Tx K mg a) (G_draw : FnOk P w K mg base CX0 1 a.f_draw a.fd_draw ["_law_script", "_law_k", "_law_many"] (spDraw K)) (hr : Room 1 (A.deeper (envOfC "_law_thing" (defScope s_thing) s.heap.objs.size f cdv))) :
    QSs (cxOf CX0 P w K mg base ["_law_script", "_law_k", "_law_some_here"] "_law_thing" (defScope s_thing) f cdv A outer s H E).nox (defBody s_thing) (rd_thing K a) := by
  delta rd_thing rdHThing
  exact kss_cons (ks_set (i:=2) sc_thing.nd (ke_lst (ka_cons (ke_txt (by kernel_rfl)) (ka_cons (ke_txt (by kernel_rfl)) (ka_cons (ke_txt (by kernel_rfl)) (ka_cons (ke_txt (by kernel_rfl)) (ka_cons (ke_txt (by kernel_rfl)) (ka_cons (ke_txt (by kernel_rfl)) (ka_cons (ke_txt (by kernel_rfl)) (ka_cons (ke_txt (by kernel_rfl)) ka_nil))))))))))
      (kss_one (ks_ret (ke_ix ix_list (kv 2) (ke_call G_draw (by exact hr.mono (by decide)) T.g_draw T.F_draw.kp T.b_draw pass0 (ka_cons (kv 0) (ka_cons (kv 1) (ka_cons ke_int ka_nil)))))))
theorem sc_is_told : FnScope ["_law_hand", "_law_size_here", "_law_number", "_law_model", "_law_shown_here", "_law_marks", "_law_things", "_law_state_here", "_law_due", "_law_rows_here"] ["_law_hand", "_law_size_here", "_law_number", "_law_model"] (defScope s_is_told) := ⟨rfl, rfl, rfl, by decide +kernel, rfl, by decide +kernel, by decide +kernel⟩
def rd_is_told (K:PySem.W.Frag) (a:Ad):TS:=
    tSeq (tAsg (tCall spLShown [] E0 (tCons (tVar 3) tNil)) (gName 4))
      (tSeq (tAsg (tMeth a.k_Hand "marks" (spHMarks a.k_Hand) [] E0 (tVar 0) tNil) (gName 5))
      (tSeq (tAsg (tMeth a.k_Hand "things" (spHThings a.k_Hand) [] E0 (tVar 0) tNil) (gName 6))
      (tSeq (tAsg (tMeth a.k_Hand "state" (spHState a.k_Hand) [] E0 (tVar 0) tNil) (gName 7))
      (tSeq (tIfS (tOr (tTest (tOp (rNeLS K) (tVar 5) (tVar 4))) (tTest (tOp (rNeLS K) (tVar 6) (tComp (iList K (tVar 4)) [3] tYes (tDGet (tDGet (tVar 1) (tC (.str (txt [116,104,105,110,103,115])))) (tVar 0)))))) (tRet (tC (.bl false))) (tNext))
      (tSeq (tIfS (tOr (tTest (tOp rNe (tMeth a.k_Hand "age" (spHAge a.k_Hand) [] E0 (tVar 0) tNil) (tCB (rLenL K) (tCons (tDGet (tVar 3) (tC (.str (txt [114, 101, 110, 101, 119, 97, 108, 115])))) tNil)))) (tOr (tTest (tOp rNe (tMeth a.k_Hand "number" (spHNumber a.k_Hand) [] E0 (tVar 0) tNil) (tVar 2))) (tNot (tB (tIsi K "tuple" (tVar 7)))))) (tRet (tC (.bl false))) (tNext))
      (tSeq (tAsg (tCall (spLState K) [] E0 (tCons (tVar 1) (tCons (tVar 3) tNil))) (gName 8))
      (tSeq (tIfS (tTest (tOp (rNeD K) (tVar 7) (tVar 8))) (tRet (tC (.bl false))) (tNext))
      (tSeq (tDrop (tBM K "list" rAppend (tVar 5) (tCons (tC (.str (txt [98]))) tNil)))
      (tSeq (tDrop (tBM K "list" rAppend (tVar 6) (tCons (tC (.str (txt [98]))) tNil)))
      (tSeq (tFor (iList K (tOp (rIxT K) (tVar 7) (tC (.int 2)))) (gName 9) (tDrop (tBM K "list" rAppend (tVar 9) (tCons (tTup (tCons (tC (.str (txt [98]))) (tCons (tC .non) tNil))) tNil))))
      (tSeq (tDrop (tBM K "list" rAppend (tOp (rIxT K) (tVar 7) (tC (.int 2))) (tCons (tLst tNil) tNil)))
      (tSeq (tDrop (tBM K "list" rAppend (tOp (rIxT K) (tVar 7) (tC (.int 3))) (tCons (tTup (tCons (tC (.str (txt [98]))) (tCons (tC (.str (txt [98]))) tNil))) tNil)))
      (tSeq (tDrop (tBM K "list" rAppend (tOp (rIxT K) (tVar 7) (tC (.int 4))) (tCons (tC (.str (txt [98]))) tNil)))
      (tRet (tAndV (tOp (rEqD K) (tMeth a.k_Hand "state" (spHState a.k_Hand) [] E0 (tVar 0) tNil) (tVar 8)) (tOp (rEqLS K) (tMeth a.k_Hand "marks" (spHMarks a.k_Hand) [] E0 (tVar 0) tNil) (tVar 4)))))))))))))))))
theorem pr_is_told (T : Tx K mg a) (G_shown : FnOk P w K mg base CX0 1 a.f_shown a.fd_shown ["_law_model"] spLShown) (G_p3 : FnOk P w K mg base CX0 1 a.f_p3 a.fd_p3 ["self"] (spHMarks a.k_Hand)) (G_p9 : FnOk P w K mg base CX0 2 a.f_p9 a.fd_p9 ["self"] (spHThings a.k_Hand)) (G_p7 : FnOk P w K mg base CX0 2 a.f_p7 a.fd_p7 ["self"] (spHState a.k_Hand)) (G_p1 : FnOk P w K mg base CX0 1 a.f_p1 a.fd_p1 ["self"] (spHAge a.k_Hand)) (G_p4 : FnOk P w K mg base CX0 1 a.f_p4 a.fd_p4 ["self"] (spHNumber a.k_Hand)) (G_state : FnOk P w K mg base CX0 1 a.f_state a.fd_state ["_law_size_here", "_law_model"] (spLState K)) (hr : Room 2 (A.deeper (envOfC "_law_is_told" (defScope s_is_told) s.heap.objs.size f cdv))) :
    QSs (cxOf CX0 P w K mg base ["_law_hand", "_law_size_here", "_law_number", "_law_model", "_law_shown_here", "_law_marks", "_law_things", "_law_state_here", "_law_due", "_law_rows_here"] "_law_is_told" (defScope s_is_told) f cdv A outer s H E).nox (defBody s_is_told) (rd_is_told K a) := by
  have hu:=Room.units hr
  exact kss_cons (ks_set (i:=4) sc_is_told.nd (ke_call G_shown (by exact hr.mono (by decide)) T.g_shown T.F_shown.kp T.b_shown pass0 (ka_cons (kvc 3) ka_nil)))
      (kss_cons (ks_set (i:=5) sc_is_told.nd (ke_meth0 (kv 0) T.K_Hand T.M_p3 G_p3 (by exact hr.mono (by decide)) T.b_p3 pass0))
      (kss_cons (ks_set (i:=6) sc_is_told.nd (ke_meth0 (kv 0) T.K_Hand T.M_p9 G_p9 (by exact hr.mono (by decide)) T.b_p9 pass0))
      (kss_cons (ks_set (i:=7) sc_is_told.nd (ke_meth0 (kv 0) T.K_Hand T.M_p7 G_p7 (by exact hr.mono (by decide)) T.b_p7 pass0))
      (kss_cons (ks_if (kt_w (kw_or (kt_cmp (op_neLS hu) (kv 5) (kv 4)) (kw_or1 (kt_cmp (op_neLS hu) (kv 6) (ke_comp [("_law_model",3)] (ki_list (kv 4)) (fun _ _ _ _ _=>⟨kts_nil,ke_dget hu (ke_dget hu (kvc 1) (ke_txt (by kernel_rfl))) (kv 0)⟩)))))) (kss_one (ks_ret ke_bl)) (kss_nil))
      (kss_cons (ks_if (kt_w (kw_or (kt_cmp op_ne (ke_meth0 (kv 0) T.K_Hand T.M_p1 G_p1 (by exact hr.mono (by decide)) T.b_p1 pass0) (ke_callB call_len_seq T.n_len PyProof.Rows.Boot.«len» (ka_cons (ke_dget hu (kvc 3) (ke_txt (by kernel_rfl))) ka_nil))) (kw_or (kt_cmp op_ne (ke_meth0 (kv 0) T.K_Hand T.M_p4 G_p4 (by exact hr.mono (by decide)) T.b_p4 pass0) (kv 2)) (kw_or1 (kt_not (kt_val (ke_isi T.n_isinstance PyProof.Rows.Boot.«isinstance» T.n_tuple PyProof.Rows.Boot.«tuple» (kv 7)))))))) (kss_one (ks_ret ke_bl)) (kss_nil))
      (kss_cons (ks_set (i:=8) sc_is_told.nd (ke_call G_state (by exact hr.mono (by decide)) T.g_state T.F_state.kp T.b_state pass0 (ka_cons (kv 1) (ka_cons (kvc 3) ka_nil))))
      (kss_cons (ks_if (kt_cmp (op_neD hu) (kv 7) (kv 8)) (kss_one (ks_ret ke_bl)) (kss_nil))
      (kss_cons (ks_expr (ke_bm PySem.F.plainAttrs_list PySem.F.slot_list_append PySem.F.type_list_append mt_append (kv 5) (ka_cons (ke_txt (by kernel_rfl)) ka_nil)))
      (kss_cons (ks_expr (ke_bm PySem.F.plainAttrs_list PySem.F.slot_list_append PySem.F.type_list_append mt_append (kv 6) (ka_cons (ke_txt (by kernel_rfl)) ka_nil)))
      (kss_cons (ks_for (ki_list (ke_ix ix_tup (kv 7) ke_int)) (kg_name (i:=9) sc_is_told.nd) (kss_one (ks_expr (ke_bm PySem.F.plainAttrs_list PySem.F.slot_list_append PySem.F.type_list_append mt_append (kv 9) (ka_cons (ke_tup (ka_cons (ke_txt (by kernel_rfl)) (ka_cons ke_non ka_nil))) ka_nil)))))
      (kss_cons (ks_expr (ke_bm PySem.F.plainAttrs_list PySem.F.slot_list_append PySem.F.type_list_append mt_append (ke_ix ix_tup (kv 7) ke_int) (ka_cons (ke_lst ka_nil) ka_nil)))
      (kss_cons (ks_expr (ke_bm PySem.F.plainAttrs_list PySem.F.slot_list_append PySem.F.type_list_append mt_append (ke_ix ix_tup (kv 7) ke_int) (ka_cons (ke_tup (ka_cons (ke_txt (by kernel_rfl)) (ka_cons (ke_txt (by kernel_rfl)) ka_nil))) ka_nil)))
      (kss_cons (ks_expr (ke_bm PySem.F.plainAttrs_list PySem.F.slot_list_append PySem.F.type_list_append mt_append (ke_ix ix_tup (kv 7) ke_int) (ka_cons (ke_txt (by kernel_rfl)) ka_nil)))
      (kss_one (ks_ret (ke_and (ke_cmp (op_eqD hu) (ke_meth0 (kv 0) T.K_Hand T.M_p7 G_p7 (by exact hr.mono (by decide)) T.b_p7 pass0) (kv 8)) (ke_one (ke_cmp (op_eqLS hu) (ke_meth0 (kv 0) T.K_Hand T.M_p3 G_p3 (by exact hr.mono (by decide)) T.b_p3 pass0) (kv 4)))))))))))))))))))
theorem sc_deed : FnScope ["_law_script", "_law_k", "_law_size_here", "_law_hand", "_law_number", "_law_model", "_law_shown_here", "_law_way", "_law_place", "_law_rows_here", "_law_things", "_law_old", "_law_fresh", "_law_found", "_law_same", "_law_thing_here"] ["_law_script", "_law_k", "_law_size_here", "_law_hand", "_law_number", "_law_model"] (defScope s_deed) := ⟨rfl, rfl, rfl, by decide +kernel, rfl, by decide +kernel, by decide +kernel⟩
def rd_deed (K:PySem.W.Frag) (a:Ad):TS:=
    tSeq (tAsg (tCall spLShown [] E0 (tCons (tVar 5) tNil)) (gName 6))
      (tSeq (tAsg (tCall (spDraw K) [] E0 (tCons (tVar 0) (tCons (tVar 1) (tCons (tC (.int 8)) tNil)))) (gName 7))
      (tSeq (tIfS (tAnd (tTest (tOp rLtI (tVar 7) (tC (.int 2)))) (tTest (tOp rGtI (tCB (rLenL K) (tCons (tVar 6) tNil)) (tC (.int 0))))) (tSeq (tAsg (tCall (spDraw K) [] E0 (tCons (tVar 0) (tCons (tOp rAddI (tVar 1) (tC (.int 1))) (tCons (tCB (rLenL K) (tCons (tVar 6) tNil)) tNil)))) (gName 8))
      (tSeq (sDPut (tDGet (tVar 5) (tC (.str (txt [116,97,107,101,110])))) (tOp (rIxL K) (tVar 6) (tVar 8)) (tC (.bl true)))
      (tRet (tOp rEq (tMeth a.k_Hand "take" (spHTake a.k_Hand a.c_NoPlace) [] E0 (tVar 3) (tCons (tVar 8) tNil)) (tOp (rIxL K) (tVar 6) (tVar 8)))))) (tNext))
      (tSeq (tIfS (tAnd (tTest (tOp rEq (tVar 7) (tC (.int 2)))) (tTest (tOp rEq (tVar 4) (tC (.int 0))))) (tSeq (tAsg (tCall (spLRows K) [] E0 (tCons (tOp (rIxT K) (tVar 2) (tC (.int 0))) (tCons (tVar 5) tNil))) (gName 9))
      (tSeq (tAsg tDNewK (gName 10))
      (tSeq (tFor (iList K (tVar 9)) (gTup K 2 (gCons (gName 11) (gCons (gName 12) gNil))) (tIfS (tB (tNotN (tVar 12))) (sDPut (tVar 10) (tVar 12) (tDGet (tDGet (tVar 5) (tC (.str (txt [116,104,105,110,103,115])))) (tVar 11))) (tNext)))
      (tSeq (tDrop (tBM K "list" rAppend (tDGet (tVar 5) (tC (.str (txt [114,101,110,101,119,97,108,115])))) (tCons (tVar 9) tNil)))
      (tSeq (sDPut (tVar 5) (tC (.str (txt [116,104,105,110,103,115]))) (tVar 10))
      (tSeq (sDPut (tVar 5) (tC (.str (txt [116,97,107,101,110]))) tDNewK)
      (tSeq (tAsg (tMeth a.k_Hand "renew" (spHRenew a.k_Hand a.c_NoHand) [] E0 (tVar 3) tNil) (gName 13))
      (tSeq (tAsg (tAndV (tIsi K "list" (tVar 13)) (tOp (rEqD K) (tVar 13) (tVar 9))) (gName 14))
      (tSeq (tDrop (tBM K "list" rAppend (tVar 13) (tCons (tTup (tCons (tC (.str (txt [98]))) (tCons (tC .non) tNil))) tNil)))
      (tRet (tVar 14))))))))))) (tNext))
      (tSeq (tAsg (tCall (spDraw K) [] E0 (tCons (tVar 0) (tCons (tOp rAddI (tVar 1) (tC (.int 1))) (tCons (tOp rAddI (tCB (rLenL K) (tCons (tVar 6) tNil)) (tC (.int 1))) tNil)))) (gName 8))
      (tSeq (tIfS (tTest (tOp rGtI (tVar 7) (tC (.int 5)))) (tAsg (tOp (rIxL K) (tLst (tCons (tC (.int 0)) (tCons (tCB (rLenL K) (tCons (tVar 6) tNil)) tNil))) (tOp rSubI (tVar 7) (tC (.int 6)))) (gName 8)) (tNext))
      (tSeq (tAsg (tCall (spHThing K) [] E0 (tCons (tVar 0) (tCons (tOp rAddI (tVar 1) (tC (.int 2))) tNil))) (gName 15))
      (tRet (tOp rEq (tMeth a.k_Hand "put" (spHPut a.k_Hand a.c_NoThing a.c_NoPlace) [] E0 (tVar 3) (tCons (tVar 8) (tCons (tVar 15) tNil))) (tCall (spLPut K) [] E0 (tCons (tVar 2) (tCons (tVar 4) (tCons (tVar 5) (tCons (tVar 8) (tCons (tVar 15) tNil))))))))))))))
theorem pr_deed (T : Tx K mg a) (G_shown : FnOk P w K mg base CX0 1 a.f_shown a.fd_shown ["_law_model"] spLShown) (G_draw : FnOk P w K mg base CX0 1 a.f_draw a.fd_draw ["_law_script", "_law_k", "_law_many"] (spDraw K)) (G_p8 : FnOk P w K mg base (CX1 P w) 2 a.f_p8 a.fd_p8 ["self", "place"] (spHTake a.k_Hand a.c_NoPlace)) (G_rows : FnOk P w K mg base CX0 2 a.f_rows a.fd_rows ["_law_letters", "_law_model"] (spLRows K)) (G_p6 : FnOk P w K mg base (CX1 P w) 4 a.f_p6 a.fd_p6 ["self"] (spHRenew a.k_Hand a.c_NoHand)) (G_thing : FnOk P w K mg base CX0 2 a.f_thing a.fd_thing ["_law_script", "_law_k"] (spHThing K)) (G_p5 : FnOk P w K mg base (CX1 P w) 7 a.f_p5 a.fd_p5 ["self", "place", "thing"] (spHPut a.k_Hand a.c_NoThing a.c_NoPlace)) (G_put : FnOk P w K mg base CX0 4 a.f_put a.fd_put ["_law_size_here", "_law_hand", "_law_model", "_law_place", "_law_thing_here"] (spLPut K)) (hr : Room 7 (A.deeper (envOfC "_law_deed" (defScope s_deed) s.heap.objs.size f cdv))) :
    QSs (cxOf CX0 P w K mg base ["_law_script", "_law_k", "_law_size_here", "_law_hand", "_law_number", "_law_model", "_law_shown_here", "_law_way", "_law_place", "_law_rows_here", "_law_things", "_law_old", "_law_fresh", "_law_found", "_law_same", "_law_thing_here"] "_law_deed" (defScope s_deed) f cdv A outer s H E).nox (defBody s_deed) (rd_deed K a) := by
  have hu:=Room.units hr
  exact kss_cons (ks_set (i:=6) sc_deed.nd (ke_call G_shown (by exact hr.mono (by decide)) T.g_shown T.F_shown.kp T.b_shown pass0 (ka_cons (kv 5) ka_nil)))
      (kss_cons (ks_set (i:=7) sc_deed.nd (ke_call G_draw (by exact hr.mono (by decide)) T.g_draw T.F_draw.kp T.b_draw pass0 (ka_cons (kv 0) (ka_cons (kv 1) (ka_cons ke_int ka_nil)))))
      (kss_cons (ks_if (kt_w (kw_and (kt_cmp op_lt (kv 7) ke_int) (kw_and1 (kt_cmp op_gt (ke_callB call_len_seq T.n_len PyProof.Rows.Boot.«len» (ka_cons (kv 6) ka_nil)) ke_int)))) (kss_cons (ks_set (i:=8) sc_deed.nd (ke_call G_draw (by exact hr.mono (by decide)) T.g_draw T.F_draw.kp T.b_draw pass0 (ka_cons (kv 0) (ka_cons (ke_op op_add (kv 1) ke_int) (ka_cons (ke_callB call_len_seq T.n_len PyProof.Rows.Boot.«len» (ka_cons (kv 6) ka_nil)) ka_nil)))))
      (kss_cons (ks_dput hu (ke_dget hu (kv 5) (ke_txt (by kernel_rfl))) (ke_ix ix_list (kv 6) (kv 8)) ke_bl)
      (kss_one (ks_ret (ke_cmp op_eq (ke_meth (kv 3) T.K_Hand T.M_p8 G_p8 (by exact hr.mono (by decide)) T.b_p8 pass1 (ka_cons (kv 8) ka_nil)) (ke_ix ix_list (kv 6) (kv 8))))))) (kss_nil))
      (kss_cons (ks_if (kt_w (kw_and (kt_cmp op_eq (kv 7) ke_int) (kw_and1 (kt_cmp op_eq (kv 4) ke_int)))) (kss_cons (ks_set (i:=9) sc_deed.nd (ke_call G_rows (by exact hr.mono (by decide)) T.g_rows T.F_rows.kp T.b_rows pass0 (ka_cons (ke_ix ix_tup (kv 2) ke_int) (ka_cons (kv 5) ka_nil))))
      (kss_cons (ks_set (i:=10) sc_deed.nd ke_dnewK)
      (kss_cons (ks_for (ki_list (kv 9)) (kg_tup (kgs_cons (kg_name (i:=11) sc_deed.nd) (kgs_cons (kg_name (i:=12) sc_deed.nd) kgs_nil))) (kss_one (ks_if (kt_notN (kv 12)) (kss_one (ks_dput hu (kv 10) (kv 12) (ke_dget hu (ke_dget hu (kv 5) (ke_txt (by kernel_rfl))) (kv 11)))) (kss_nil))))
      (kss_cons (ks_expr (ke_bm PySem.F.plainAttrs_list PySem.F.slot_list_append PySem.F.type_list_append mt_append (ke_dget hu (kv 5) (ke_txt (by kernel_rfl))) (ka_cons (kv 9) ka_nil)))
      (kss_cons (ks_dput hu (kv 5) (ke_txt (by kernel_rfl)) (kv 10))
      (kss_cons (ks_dput hu (kv 5) (ke_txt (by kernel_rfl)) ke_dnewK)
      (kss_cons (ks_set (i:=13) sc_deed.nd (ke_meth0 (kv 3) T.K_Hand T.M_p6 G_p6 (by exact hr.mono (by decide)) T.b_p6 pass1))
      (kss_cons (ks_set (i:=14) sc_deed.nd (ke_and (ke_isi T.n_isinstance PyProof.Rows.Boot.«isinstance» T.n_list PyProof.Rows.Boot.«list» (kv 13)) (ke_one (ke_cmp (op_eqD hu) (kv 13) (kv 9)))))
      (kss_cons (ks_expr (ke_bm PySem.F.plainAttrs_list PySem.F.slot_list_append PySem.F.type_list_append mt_append (kv 13) (ka_cons (ke_tup (ka_cons (ke_txt (by kernel_rfl)) (ka_cons ke_non ka_nil))) ka_nil)))
      (kss_one (ks_ret (kv 14)))))))))))) (kss_nil))
      (kss_cons (ks_set (i:=8) sc_deed.nd (ke_call G_draw (by exact hr.mono (by decide)) T.g_draw T.F_draw.kp T.b_draw pass0 (ka_cons (kv 0) (ka_cons (ke_op op_add (kv 1) ke_int) (ka_cons (ke_op op_add (ke_callB call_len_seq T.n_len PyProof.Rows.Boot.«len» (ka_cons (kv 6) ka_nil)) ke_int) ka_nil)))))
      (kss_cons (ks_if (kt_cmp op_gt (kv 7) ke_int) (kss_one (ks_set (i:=8) sc_deed.nd (ke_ix ix_list (ke_lst (ka_cons ke_int (ka_cons (ke_callB call_len_seq T.n_len PyProof.Rows.Boot.«len» (ka_cons (kv 6) ka_nil)) ka_nil))) (ke_op op_sub (kv 7) ke_int)))) (kss_nil))
      (kss_cons (ks_set (i:=15) sc_deed.nd (ke_call G_thing (by exact hr.mono (by decide)) T.g_thing T.F_thing.kp T.b_thing pass0 (ka_cons (kv 0) (ka_cons (ke_op op_add (kv 1) ke_int) ka_nil))))
      (kss_one (ks_ret (ke_cmp op_eq (ke_meth (kv 3) T.K_Hand T.M_p5 G_p5 (by exact hr.mono (by decide)) T.b_p5 pass1 (ka_cons (kv 8) (ka_cons (kv 15) ka_nil))) (ke_call G_put (by exact hr.mono (by decide)) T.g_put T.F_put.kp T.b_put pass0 (ka_cons (kv 2) (ka_cons (kv 4) (ka_cons (kv 5) (ka_cons (kv 8) (ka_cons (kv 15) ka_nil)))))))))))))))
theorem sc_law : FnScope ["_law_script", "_law_size_here", "_law_number", "_law_hand", "_law_model", "_law_many", "_law_k"] ["_law_script"] (defScope s_law) := ⟨rfl, rfl, rfl, by decide +kernel, rfl, by decide +kernel, by decide +kernel⟩
def rd_law (K:PySem.W.Frag) (a:Ad):TS:=
    tSeq (tAsg (tCall (spSize K) [] E0 (tCons (tVar 0) tNil)) (gName 1))
      (tSeq (tAsg (tCall (spDraw K) [] E0 (tCons (tVar 0) (tCons (tC (.int 3)) (tCons (tOp (rIxT K) (tVar 1) (tC (.int 1))) tNil)))) (gName 2))
      (tSeq (tIfS (tTest (tOp rEq (tCall (spDraw K) [] E0 (tCons (tVar 0) (tCons (tC (.int 4)) (tCons (tC (.int 2)) tNil)))) (tC (.int 0)))) (tAsg (tC (.int 0)) (gName 2)) (tNext))
      (tSeq (tAsg (tMake a.k_Hand (spHInit a.k_Hand a.c_NoLetters a.c_NoHand) [] E0 (tCons (tOp (rIxT K) (tVar 1) (tC (.int 0))) (tCons (tOp (rIxT K) (tVar 1) (tC (.int 1))) (tCons (tVar 2) tNil)))) (gName 3))
      (tSeq (tAsg (tDisp [(tC (.str (txt [114,101,110,101,119,97,108,115])),tLst tNil),(tC (.str (txt [116,104,105,110,103,115])),tDNewK),(tC (.str (txt [116,97,107,101,110])),tDNewK)]) (gName 4))
      (tSeq (tIfS (tNot (tB (tCall (spIsTold K a.k_Hand) [] E0 (tCons (tVar 3) (tCons (tVar 1) (tCons (tVar 2) (tCons (tVar 4) tNil))))))) (tRet (tC (.bl false))) (tNext))
      (tSeq (tAsg (tCall (spDraw K) [] E0 (tCons (tVar 0) (tCons (tC (.int 5)) (tCons (tC (.int 17)) tNil)))) (gName 5))
      (tSeq (tIfS (tTest (tOp rEq (tCall (spDraw K) [] E0 (tCons (tVar 0) (tCons (tC (.int 6)) (tCons (tC (.int 12)) tNil)))) (tC (.int 0)))) (tAsg (tOp rAddI (tC (.int 30)) (tCall (spDraw K) [] E0 (tCons (tVar 0) (tCons (tC (.int 7)) (tCons (tC (.int 20)) tNil))))) (gName 5)) (tNext))
      (tSeq (tFor (iRng1 (tCons (tVar 5) tNil)) (gName 6) (tSeq (tIfS (tNot (tB (tCall (spDeed K a.k_Hand) [] E0 (tCons (tVar 0) (tCons (tOp rAddI (tC (.int 100)) (tOp rMulI (tC (.int 4)) (tVar 6))) (tCons (tVar 1) (tCons (tVar 3) (tCons (tVar 2) (tCons (tVar 4) tNil))))))))) (tRet (tC (.bl false))) (tNext))
      (tIfS (tNot (tB (tCall (spIsTold K a.k_Hand) [] E0 (tCons (tVar 3) (tCons (tVar 1) (tCons (tVar 2) (tCons (tVar 4) tNil))))))) (tRet (tC (.bl false))) (tNext))))
      (tRet (tC (.bl true)))))))))))
theorem pr_law (T : Tx K mg a) (G_size : FnOk P w K mg base CX0 2 a.f_size a.fd_size ["_law_script"] (spSize K)) (G_draw : FnOk P w K mg base CX0 1 a.f_draw a.fd_draw ["_law_script", "_law_k", "_law_many"] (spDraw K)) (G_p0 : FnOk P w K mg base (CX1 P w) 2 a.f_p0 a.fd_p0 ["self", "letters", "hands", "number"] (spHInit a.k_Hand a.c_NoLetters a.c_NoHand)) (G_is_told : FnOk P w K mg base CX0 3 a.f_is_told a.fd_is_told ["_law_hand", "_law_size_here", "_law_number", "_law_model"] (spIsTold K a.k_Hand)) (G_deed : FnOk P w K mg base CX0 8 a.f_deed a.fd_deed ["_law_script", "_law_k", "_law_size_here", "_law_hand", "_law_number", "_law_model"] (spDeed K a.k_Hand)) (hr : Room 8 (A.deeper (envOfC "law" (defScope s_law) s.heap.objs.size f cdv))) :
    QSs (cxOf CX0 P w K mg base ["_law_script", "_law_size_here", "_law_number", "_law_hand", "_law_model", "_law_many", "_law_k"] "law" (defScope s_law) f cdv A outer s H E).nox (defBody s_law) (rd_law K a) := by
  exact kss_cons (ks_set (i:=1) sc_law.nd (ke_call G_size (by exact hr.mono (by decide)) T.g_size T.F_size.kp T.b_size pass0 (ka_cons (kv 0) ka_nil)))
      (kss_cons (ks_set (i:=2) sc_law.nd (ke_call G_draw (by exact hr.mono (by decide)) T.g_draw T.F_draw.kp T.b_draw pass0 (ka_cons (kv 0) (ka_cons ke_int (ka_cons (ke_ix ix_tup (kv 1) ke_int) ka_nil)))))
      (kss_cons (ks_if (kt_cmp op_eq (ke_call G_draw (by exact hr.mono (by decide)) T.g_draw T.F_draw.kp T.b_draw pass0 (ka_cons (kv 0) (ka_cons ke_int (ka_cons ke_int ka_nil)))) ke_int) (kss_one (ks_set (i:=2) sc_law.nd ke_int)) (kss_nil))
      (kss_cons (ks_set (i:=3) sc_law.nd (ke_make T.I_Hand G_p0 (by exact hr.mono (by decide)) T.gk_Hand T.b_p0 pass1 (ka_cons (ke_ix ix_tup (kv 1) ke_int) (ka_cons (ke_ix ix_tup (kv 1) ke_int) (ka_cons (kv 2) ka_nil)))))
      (kss_cons (ks_set (i:=4) sc_law.nd (ke_disp (kps_cons (ke_txt (by kernel_rfl)) (ke_lst ka_nil) (kps_cons (ke_txt (by kernel_rfl)) ke_dnewK (kps_cons (ke_txt (by kernel_rfl)) ke_dnewK kps_nil)))))
      (kss_cons (ks_if (kt_not (kt_val (ke_call G_is_told (by exact hr.mono (by decide)) T.g_is_told T.F_is_told.kp T.b_is_told pass0 (ka_cons (kv 3) (ka_cons (kv 1) (ka_cons (kv 2) (ka_cons (kv 4) ka_nil))))))) (kss_one (ks_ret ke_bl)) (kss_nil))
      (kss_cons (ks_set (i:=5) sc_law.nd (ke_call G_draw (by exact hr.mono (by decide)) T.g_draw T.F_draw.kp T.b_draw pass0 (ka_cons (kv 0) (ka_cons ke_int (ka_cons ke_int ka_nil)))))
      (kss_cons (ks_if (kt_cmp op_eq (ke_call G_draw (by exact hr.mono (by decide)) T.g_draw T.F_draw.kp T.b_draw pass0 (ka_cons (kv 0) (ka_cons ke_int (ka_cons ke_int ka_nil)))) ke_int) (kss_one (ks_set (i:=5) sc_law.nd (ke_op op_add ke_int (ke_call G_draw (by exact hr.mono (by decide)) T.g_draw T.F_draw.kp T.b_draw pass0 (ka_cons (kv 0) (ka_cons ke_int (ka_cons ke_int ka_nil))))))) (kss_nil))
      (kss_cons (ks_for (ki_range1 T.n_range (ka_cons (kv 5) ka_nil)) (kg_name (i:=6) sc_law.nd) (kss_cons (ks_if (kt_not (kt_val (ke_call G_deed (by exact hr.mono (by decide)) T.g_deed T.F_deed.kp T.b_deed pass0 (ka_cons (kv 0) (ka_cons (ke_op op_add ke_int (ke_op op_mulB ke_int (kv 6))) (ka_cons (kv 1) (ka_cons (kv 3) (ka_cons (kv 2) (ka_cons (kv 4) ka_nil))))))))) (kss_one (ks_ret ke_bl)) (kss_nil))
      (kss_one (ks_if (kt_not (kt_val (ke_call G_is_told (by exact hr.mono (by decide)) T.g_is_told T.F_is_told.kp T.b_is_told pass0 (ka_cons (kv 3) (ka_cons (kv 1) (ka_cons (kv 2) (ka_cons (kv 4) ka_nil))))))) (kss_one (ks_ret ke_bl)) (kss_nil)))))
      (kss_one (ks_ret ke_bl))))))))))
end
end K60
namespace K60
open PySem PySem.Spec PyProof.Rows L2 MM
theorem read_size {K:PySem.W.Frag} {a:Ad} {N:List Str} {vs:List V} {H:Hp} {Q:VK} {E:XK} (hN:N.length = 3) (h:spSize K vs H Q E):rd_size K a { nx:=fun _ H'=>Q .non H',rt:=Q } (L2.start N vs) H:=by
  obtain ⟨sc,ns,rfl,hS,hl,q⟩:=h
  unfold rd_size L2.start
  rw [hN]
  refine seq_set fun c hc=>?_
  and_intros
  refine ⟨by decide,fun p hp=>?_⟩
  have s1:=Same.up (o:=HO.lst [V.int 2,V.int 3,V.int 4,V.int 5,V.int 10,V.int 26]) H hp
  refine ⟨sc,ns,_,_,rfl,s1.seq hS,hl,by decide,by decide,by decide,fun r h0 h1=>?_⟩
  refine ixI_go (ns:=[2,3,4,5,10,26]) SqL.here h0 (by simp only [List.length_cons,List.length_nil]; omega) fun L hL _=>hc _ _ ?_
  clear hc c
  generalize upd H p _ = H1 at s1 ⊢
  have hS1:=s1.seq hS
  have hL2:2 ≤ L∧L ≤ 26:=by
    simp only [List.mem_cons,List.not_mem_nil,or_false] at hL
    omega
  obtain ⟨L,rfl⟩:=Int.eq_ofNat_of_zero_le (a:=L) (by omega)
  refine seq_set fun c hc=>?_
  and_intros
  refine ⟨4,_,rfl,⟨sc,ns,_,_,rfl,hS1,hl,by decide,by decide,by split <;> omega,fun r2 h20 h21=>⟨_,rfl,hc _ _ ?_⟩⟩⟩
  clear hc c
  have hh:1 ≤ 1 + r2∧1 + r2 + 1 ≤ L:=by split at h21 <;> omega
  generalize 1 + r2 = h at hh ⊢
  and_intros
  refine ⟨sc,ns,_,_,rfl,hS1,hl,by decide,by decide,by decide,fun r3 h30 h31=>⟨rfl,?_⟩⟩
  by_cases z:r3 = 0
  · rw [if_pos (congrArg V.int z)]
    refine ⟨by decide,fun p2 hp2=>?_⟩
    have:=q _ p2 L (L - 1) (s1.new hp2 (o:=.tup [.int L,.int ((L:Int) - 1)])) (by rw [upd_same]; simp; omega) (by omega) (by omega) (by omega) (by omega)
    exact this
  · rw [if_neg (fun y=>z (V.int.inj y))]
    refine ⟨by decide,fun p2 hp2=>?_⟩
    have:=q _ p2 L h.toNat (s1.new hp2 (o:=.tup [.int L,.int h])) (by rw [upd_same]; simp; omega) (by omega) (by omega) (by omega) (by omega)
    exact this
theorem isiT_go {K:PySem.W.Frag} {H:Hp} {a:Addr} {xs:List V} {Q:VK} (h:H a = some (.tup xs)) (q:Q (.bl true) H):rIsi K "tuple" (.ref a) H Q:=⟨_,_,.tup h,isTy_tuple_tuple,q⟩
theorem _root_.L2.StA.keep {H H':Hp} {F:List Addr} {p p1 p2 p3:Addr} {bs:List Addr} {ts:List V} {L h:Nat} {R:List (List RwN)} {zs:List (List Nat × List Nat)} {ws:List (List Nat)} (A:StA H p p1 p2 p3 bs ts L h R zs ws) (k:Keeps F H H') (hF:∀ t ∈ F,∃ xs,H t = some (.lst xs)) (hn:∀ b ∈ p1 :: p2 :: p3 :: bs,b ∉ F):StA H' p p1 p2 p3 bs ts L h R zs ws:=by
  have tt:∀ t ys,H t = some (.tup ys)→t ∉ F:=fun t ys e z=>by obtain ⟨xs,w⟩:=hF t z; rw [e] at w; cases w
  refine ⟨k _ _ A.top (tt _ _ A.top),k _ _ A.ren (hn p1 (by simp)),A.row.keep k (fun t z ys e=>tt t ys e z) fun a ha=>hn a (by simp [ha]),k _ _ A.thi (hn p2 (by simp)),A.prs.keep fun t ys e=>k t _ e (tt t ys e),k _ _ A.tak (hn p3 (by simp))⟩
--def AppInv (H:Hp) (cs:List Addr) (σ0:L2.St):Nat→L2.St→Hp→Prop:=fun i σ H'=>∃ v9,Keeps (cs.take i) H H'∧σ = σ0 ++ [v9]
theorem read_isTold {K:PySem.W.Frag} {mg:Str→Option Value} {a:Ad} (T:Tx K mg a) {N:List Str} {vs:List V} {H:Hp} {Q:VK} {E:XK} (hN:N.length = 10) (h:spIsTold K a.k_Hand vs H Q E):rd_is_told K a { nx:=fun _ H'=>Q .non H',rt:=Q } (L2.start N vs) H:=by
  obtain ⟨x,dx,pr,pt,pk,as,ps,pm,q1,q2,q3,bs,L,h,j,R,kvs,ks,k,b,rfl,hps,B,hk,hRl,q⟩:=h
  have few:=B.W.few
  have tkn:=B.W.taken
  unfold rd_is_told L2.start
  rw [hN]
  -- what is due
  refine seq_set fun c hc=>?_
  and_intros
  refine ⟨pm,q1,q2,q3,bs,R,kvs,ks,rfl,B.M,by omega,B.W.nd,fun H1 p4 zs s1 f4 l4 Z=>hc _ _ ?_⟩
  clear hc c
  have B1:=B.same s1
  have l4i:=l4
  have okz:∀ y ∈ zs,PyData.strOk (txt y) = true:=fun y hy=>strOk_mark B.D.l26 (B.W.mark ((Z.mem y).mp hy).1).1.ls
  have okt:∀ y ∈ zs.map (thingOf kvs),PyData.strOk (txt y) = true:=fun y hy=>by
    obtain ⟨m,hm,rfl⟩:=List.mem_map.mp hy
    exact strOk_thing (B.W.mar _ (thing_mem kvs ((Z.mem m).mp hm).1)).2.2
  have zl:=Z.len B.W
  refine seq_set fun c hc=>?_
  and_intros
  refine hmeth_go B1.S (fun R r=>⟨_,rfl,r⟩) rfl ⟨x,dx,pr,pt,pk,L,h,j,kvs,ks,rfl,B1.S,by omega,B.W.nd,fun H2 p5 zs2 s2 hp5 up mem=>hc _ _ ?_⟩
  clear hc c
  cases Z.one ⟨up,mem⟩
  have s3:=s2.new hp5 (o:=.lst (zs.map strV))
  have l5:(upd H2 p5 (.lst (zs.map strV))) p5 = some (.lst (zs.map strV)):=upd_same
  have f5:=s2.free1 hp5
  generalize upd H2 p5 _ = H3 at s3 l5 ⊢
  have B3:=B1.same s3
  refine seq_set fun c hc=>?_
  and_intros
  refine hmeth_go B3.S (fun R r=>⟨_,rfl,r⟩) rfl ⟨x,dx,pr,pt,pk,L,h,j,kvs,ks,rfl,B3.S,by omega,B.W.nd,fun H4 p6 zs3 s4 f6 Z3 l6=>hc _ _ ?_⟩
  clear hc c
  cases Z.one Z3
  have B4:=B3.same s4
  have n56:p5 ≠ p6:=fun z=>by rw [z,f6] at l5; cases l5
  have m5:=s4 _ _ l5
  have m6:=l6
  refine seq_set fun c hc=>?_
  and_intros
  refine hmeth_go B4.S (fun R r=>⟨_,rfl,r⟩) rfl ?_
  and_intros
  refine ⟨x,dx,pr,pt,pk,L,h,j,kvs,ks,as,R,rfl,B4.S,by omega,B.W.nd,by omega,B.W.tnd,B4.A.lst,B4.A.row,by omega,fun H5 p p1 p2 p3 cs ts us ws s5 To A nd fr=>hc _ _ ?_⟩
  clear hc c
  have B5:=B4.same s5
  have l4:=s5 _ _ (s4 _ _ (s3 _ _ l4))
  have l5':=s5 _ _ (s4 _ _ l5)
  have l6':=s5 _ _ l6
  simp only [List.set_cons_zero,List.set_cons_succ,List.replicate_succ,List.replicate_zero,List.map_cons,List.map_nil,List.cons_append,List.nil_append]
  -- marks,things
  refine seq_any fun c hc=>?_
  suffices main:∀ H6,Same H5 H6→c [some (.ref x),some (.ref ps),some (.int j),some (.ref pm),some (.ref p4),some (.ref p5),some (.ref p6),some (.ref p),none,none] H6 by
    and_intros
    refine ⟨p5,p4,zs,zs,rfl,rfl,SqL.of l5',SqL.of l4,okz,okz,_,rfl,?_⟩
    rw [if_neg (by simp)]
    refine comp_l (a:=p4) (xs:=zs.map strV) (fun Q h=>⟨_,rfl,h⟩) (SqL.of l4) (fun i ys H'=>H' = H5∧ys = ((zs.take i).map (thingOf kvs)).map strV) ⟨rfl,rfl⟩ (fun i ys H' _ p=>by
      rw [p.1,p.2,List.length_map,List.length_map,List.length_take]
      exact ⟨SqL.of l4,Nat.min_le_left _ _⟩) (by rw [List.length_map,sizeLine_eq]; omega) ?_ ?_
    · rintro i v ys H' hv ⟨rfl,rfl⟩ W hW
      rw [List.getElem?_map] at hv
      obtain ⟨m,hm,rfl⟩:=Option.map_eq_some_iff.mp hv
      simp? [strV]
      refine mGet_go (v:=m) B5.M (fun R r=>mThi_go B5.M rfl r) rfl ((Z.mem m).mp (List.mem_of_getElem? hm)).1 (hW _ _ ⟨rfl,?_⟩)
      rw [List.take_add_one,hm,List.map_append,List.map_append]
      rfl
    · rintro ys H' ⟨rfl,rfl⟩ o ho
      rw [List.length_map,List.take_length]
      refine ⟨p6,o,zs.map (thingOf kvs),zs.map (thingOf kvs),rfl,rfl,SqL.of ((Same.up H' ho) _ _ l6'),SqL.here,okt,okt,_,rfl,?_⟩
      rw [if_neg (by simp)]
      exact main _ (Same.up H' ho)
  intro H6 s6
  refine hc _ _ ?_
  clear hc c
  have B6:=B5.same s6
  have A6:=A.same s6
  -- age,number
  refine seq_any fun c hc=>?_
  and_intros
  refine hmeth_go B6.S (fun R r=>⟨_,rfl,r⟩) rfl ⟨x,dx,pr,pt,pk,L,h,j,kvs,ks,_,rfl,B6.S,B6.A.lst,?_⟩
  refine mRen_go B6.M rfl (lenL_go (SqL.of B6.M.ren.lst) ⟨rfl,?_⟩)
  rw [List.length_map,List.length_map,B6.A.row.len,B6.M.ren.row.len,if_neg (fun z=>z rfl)]
  refine hmeth_go B6.S (fun R r=>⟨_,rfl,r⟩) rfl ⟨x,dx,pr,pt,pk,L,h,j,kvs,ks,rfl,B6.S,rfl,?_⟩
  rw [if_neg (fun z=>z rfl)]
  refine isiT_go A6.top ⟨_,rfl,?_⟩
  and_intros
  refine hc _ _ ?_
  clear hc c
  -- the state due
  refine seq_set fun c hc=>?_
  and_intros
  refine ⟨ps,pm,q1,q2,q3,bs,R,kvs,ks,L,h,rfl,SqT.of (((((s1.trans s3).trans s4).trans s5).trans s6) _ _ hps),B6.M,by omega,B.W.nd,by omega,B.W.tnd,by omega,fun H7 o o1 o2 o3 ds ts' us' ws' s7 To' A' fr'=>hc _ _ ?_⟩
  clear hc c
  obtain ⟨rfl,rfl⟩:=To.one To'
  have A7:=A6.same s7
  have ok7:StOk R us ws:=⟨fun r hr=>(B.F r hr).2,(To.ok B.D.l26 B.W).things,(To.ok B.D.l26 B.W).taken⟩
  refine seq_any fun c hc=>?_
  and_intros
  refine ne_states A7 A' ok7 ⟨_,rfl,?_⟩
  rw [if_neg (by decide)]
  refine hc _ _ ?_
  clear hc c
  -- what was told is the asker's
  have s57:=s6.trans s7
  have l4:=s57 _ _ l4
  have l5:=s57 _ _ l5'
  have l6:=s57 _ _ l6'
  have s17:=((s3.trans s4).trans s5).trans s57
  have hfr:∀ f ∈ p1 :: p2 :: p3 :: cs,H4 f = none:=fun f hf=>fr f (List.mem_cons_of_mem _ hf)
  have ne5:∀ f ∈ p1 :: p2 :: p3 :: cs,f ∉ [p5]:=fun f hf z=>by have:=hfr f hf; rw [List.mem_singleton.mp z,m5] at this; cases this
  have ne6:∀ f ∈ p1 :: p2 :: p3 :: cs,f ∉ [p6]:=fun f hf z=>by have:=hfr f hf; rw [List.mem_singleton.mp z,m6] at this; cases this
  obtain ⟨nd0,nd1⟩:=List.nodup_cons.mp nd
  obtain ⟨nd1a,nd2⟩:=List.nodup_cons.mp nd1
  obtain ⟨nd2a,nd3⟩:=List.nodup_cons.mp nd2
  obtain ⟨nd3a,nd4⟩:=List.nodup_cons.mp nd3
  have rl:=A7.row.len
  have tl:=A7.prs.len
  rw [List.length_map] at tl
  have ul:=To.perm.length_eq
  have wl:=To.tperm.length_eq
  have hF:∀ t ∈ p5 :: p6 :: p1 :: p2 :: p3 :: cs,∃ xs,H7 t = some (.lst xs):=fun t ht=>by
    simp only [List.mem_cons] at ht
    rcases ht with rfl | rfl | rfl | rfl | rfl | ht
    · exact ⟨_,l5⟩
    · exact ⟨_,l6⟩
    · exact ⟨_,A7.ren⟩
    · exact ⟨_,A7.thi⟩
    · exact ⟨_,A7.tak⟩
    · obtain ⟨i,hi⟩:=List.getElem?_of_mem ht
      obtain ⟨_,xs,_,w,_⟩:=A7.row.get hi
      exact ⟨xs,w⟩
  have hF6:∀ t ∈ p5 :: p6 :: p1 :: p2 :: p3 :: cs,H6 t ≠ none:=fun t ht z=>by
    simp only [List.mem_cons] at ht
    rcases ht with rfl | rfl | rfl | rfl | rfl | ht
    · rw [s6 _ _ l5'] at z; cases z
    · rw [s6 _ _ l6'] at z; cases z
    · rw [A6.ren] at z; cases z
    · rw [A6.thi] at z; cases z
    · rw [A6.tak] at z; cases z
    · obtain ⟨i,hi⟩:=List.getElem?_of_mem ht
      obtain ⟨_,xs,_,w,_⟩:=A6.row.get hi
      rw [w] at z; cases z
  have hF1:∀ t ∈ p5 :: p6 :: p1 :: p2 :: p3 :: cs,H1 t = none:=fun t ht=>by
    rcases List.mem_cons.mp ht with rfl | ht
    · exact f5
    rcases List.mem_cons.mp ht with rfl | ht
    · exact s3.free1 f6
    · exact (s3.trans s4).free1 (hfr t ht)
  have k7:Keeps (p5 :: p6 :: p1 :: p2 :: p3 :: cs) H7 H7:=fun b o e _=>e
  -- marks
  refine seq_any fun c hc=>?_
  and_intros
  refine ⟨.inl ⟨rfl,_,SqL.of l5⟩,append_go l5 (by rw [List.length_map]; omega) (hc _ _ ?_)⟩
  clear hc c
  have k8:=k7.upd (p:=p5) (o:=.lst (zs.map strV ++ [.str (txt [98])])) (.inl List.mem_cons_self)
  have A8:=A7.keep (Keeps.upd (F:=[p5]) (p:=p5) (o:=.lst (zs.map strV ++ [.str (txt [98])])) (fun b o e _=>e) (.inl List.mem_cons_self)) (fun t ht=>by rw [List.mem_singleton.mp ht]; exact ⟨_,l5⟩) ne5
  have l6:(upd H7 p5 (.lst (zs.map strV ++ [.str (txt [98])]))) p6 = some (.lst ((zs.map (thingOf kvs)).map strV)):=by rw [upd_ne (Ne.symm n56)]; exact l6
  generalize upd H7 p5 _ = H8 at k8 A8 l6 ⊢
  -- things
  refine seq_any fun c hc=>?_
  and_intros
  refine ⟨.inl ⟨rfl,_,SqL.of l6⟩,append_go l6 (by rw [List.length_map,List.length_map]; omega) (hc _ _ ?_)⟩
  clear hc c
  have k9:=k8.upd (p:=p6) (o:=.lst ((zs.map (thingOf kvs)).map strV ++ [.str (txt [98])])) (.inl (by simp))
  have A9:=A8.keep (Keeps.upd (F:=[p6]) (p:=p6) (o:=.lst ((zs.map (thingOf kvs)).map strV ++ [.str (txt [98])])) (fun b o e _=>e) (.inl List.mem_cons_self)) (fun t ht=>by rw [List.mem_singleton.mp ht]; exact ⟨_,l6⟩) ne6
  generalize upd H8 p6 _ = H9 at k9 A9 ⊢
  -- the rows
  refine seq_any fun c hc=>?_
  refine for_l (a:=p1) (xs:=cs.map V.ref) (fun Q h=>by and_intros; exact ixT_go (v:=.ref p1) (SqT.of A9.top) (by decide) rfl h) (SqL.of A9.ren)
    (fun i σ H'=>∃ v9,Keeps (cs.take i) H9 H'∧σ = [some (.ref x),some (.ref ps),some (.int j),some (.ref pm),some (.ref p4),some (.ref p5),some (.ref p6),some (.ref p),some (.ref o),v9]) ⟨none,fun b o e _=>e,rfl⟩ (fun i σ H' _ h=>?_) ?_ ?_
  · obtain ⟨_,k',_⟩:=h
    exact SqL.of (k' _ _ A9.ren fun z=>nd1a (by simp [List.mem_of_mem_take z]))
  · rintro i y σ H' hy ⟨v9,k',rfl⟩
    rw [List.getElem?_map] at hy
    obtain ⟨ci,hci,rfl⟩:=Option.map_eq_some_iff.mp hy
    obtain ⟨r,xs,er,hx,px⟩:=A9.row.get hci
    have hil:i < cs.length:=(List.getElem?_eq_some_iff.mp hci).1
    have nin:ci ∉ cs.take i:=fun z=>by
      obtain ⟨i',hi'⟩:=List.getElem?_of_mem z
      have hlt:i' < i:=by have:=(List.getElem?_eq_some_iff.mp hi').1; rw [List.length_take] at this; omega
      rw [List.getElem?_take_of_lt hlt] at hi'
      have e1:=(List.getElem?_eq_some_iff.mp hi').2
      have e2:=(List.getElem?_eq_some_iff.mp hci).2
      exact absurd (e1.trans e2.symm) (List.pairwise_iff_getElem.mp nd4 i' i _ hil hlt)
    have hx':=k' _ _ hx nin
    have xl:=px.len
    rw [List.length_map] at xl
    have rlen:=(B.F r (List.mem_of_getElem? er)).1
    and_intros
    refine ⟨.inl ⟨rfl,_,SqL.of hx'⟩,by decide,fun t ht=>?_⟩
    have nt:ci ≠ t:=fun z=>by subst z; rw [hx'] at ht; cases ht
    refine append_go (by rw [upd_ne nt]; exact hx') (by omega) ⟨?_,_,rfl⟩
    have e:cs.take (i + 1) = cs.take i ++ [ci]:=by rw [List.take_add_one,hci]; rfl
    rw [e]
    refine Keeps.upd (Keeps.upd (fun b o e n=>k' b o e fun z=>n (List.mem_append_left _ z)) (.inr ht)) (.inl (by simp))
  rintro σ H10 ⟨v9,k',rfl⟩
  rw [List.length_map,List.take_length] at k'
  refine hc _ _ ?_
  clear hc c
  have k10:Keeps (p5 :: p6 :: p1 :: p2 :: p3 :: cs) H7 H10:=k9.trans fun b o e n=>k' b o e fun z=>n (by simp [z])
  have e1:=k' _ _ A9.ren fun z=>nd1a (by simp [z])
  have e2:=k' _ _ A9.thi fun z=>nd2a (by simp [z])
  have e3:=k' _ _ A9.tak nd3a
  have e0:=k' _ _ A9.top fun z=>by
    obtain ⟨i,hi⟩:=List.getElem?_of_mem z
    obtain ⟨_,xs,_,w,_⟩:=A9.row.get hi
    rw [A9.top] at w; cases w
  have n12:p1 ≠ p2:=fun z=>nd1a (by rw [z]; simp)
  have n13:p1 ≠ p3:=fun z=>nd1a (by rw [z]; simp)
  have n23:p2 ≠ p3:=fun z=>nd2a (by rw [z]; simp)
  have np1:p ≠ p1:=fun z=>nd0 (by rw [z]; simp)
  have np2:p ≠ p2:=fun z=>nd0 (by rw [z]; simp)
  have np3:p ≠ p3:=fun z=>nd0 (by rw [z]; simp)
  -- one renewal more
  refine seq_any fun c hc=>?_
  and_intros
  refine ixT_go (v:=.ref p1) (SqT.of e0) (by decide) rfl ⟨.inl ⟨rfl,_,SqL.of e1⟩,by decide,fun t ht=>?_⟩
  have nt:∀ {y:Addr} {u:HO},H10 y = some u→y ≠ t:=fun w z=>by subst z; rw [w] at ht; cases ht
  refine append_go (by rw [upd_ne (nt e1)]; exact e1) (by rw [List.length_map]; omega) (hc _ _ ?_)
  clear hc c
  have k11:=(k10.upd (p:=t) (o:=.lst []) (.inr ht)).upd (p:=p1) (o:=.lst (cs.map V.ref ++ [.ref t])) (.inl (by simp))
  have e0:(upd (upd H10 t (.lst [])) p1 (.lst (cs.map V.ref ++ [.ref t]))) p = some (.tup [.int L,.int h,.ref p1,.ref p2,.ref p3]):=by rw [upd_ne np1,upd_ne (nt e0)]; exact e0
  have e2:(upd (upd H10 t (.lst [])) p1 (.lst (cs.map V.ref ++ [.ref t]))) p2 = some (.lst ts):=by rw [upd_ne (Ne.symm n12),upd_ne (nt e2)]; exact e2
  have e3:(upd (upd H10 t (.lst [])) p1 (.lst (cs.map V.ref ++ [.ref t]))) p3 = some (.lst (ws.map strV)):=by rw [upd_ne (Ne.symm n13),upd_ne (nt e3)]; exact e3
  generalize upd (upd H10 t _) p1 _ = H11 at k11 e0 e2 e3 ⊢
  clear nt
  refine seq_any fun c hc=>?_
  and_intros
  refine ixT_go (v:=.ref p2) (SqT.of e0) (by decide) rfl ⟨.inl ⟨rfl,_,SqL.of e2⟩,by decide,fun t2 ht2=>?_⟩
  have nt:∀ {y:Addr} {u:HO},H11 y = some u→y ≠ t2:=fun w z=>by subst z; rw [w] at ht2; cases ht2
  refine append_go (by rw [upd_ne (nt e2)]; exact e2) (by omega) (hc _ _ ?_)
  clear hc c
  have k12:=(k11.upd (p:=t2) (o:=.tup [.str (txt [98]),.str (txt [98])]) (.inr ht2)).upd (p:=p2) (o:=.lst (ts ++ [.ref t2])) (.inl (by simp))
  have e0:(upd (upd H11 t2 (.tup [.str (txt [98]),.str (txt [98])])) p2 (.lst (ts ++ [.ref t2]))) p = some (.tup [.int L,.int h,.ref p1,.ref p2,.ref p3]):=by rw [upd_ne np2,upd_ne (nt e0)]; exact e0
  have e3:(upd (upd H11 t2 (.tup [.str (txt [98]),.str (txt [98])])) p2 (.lst (ts ++ [.ref t2]))) p3 = some (.lst (ws.map strV)):=by rw [upd_ne (Ne.symm n23),upd_ne (nt e3)]; exact e3
  generalize upd (upd H11 t2 _) p2 _ = H12 at k12 e0 e3 ⊢
  clear nt
  refine seq_any fun c hc=>?_
  and_intros
  refine ixT_go (v:=.ref p3) (SqT.of e0) (by decide) rfl ⟨.inl ⟨rfl,_,SqL.of e3⟩,append_go e3 (by rw [List.length_map]; omega) (hc _ _ ?_)⟩
  clear hc c
  have k13:=k12.upd (p:=p3) (o:=.lst (ws.map strV ++ [.str (txt [98])])) (.inl (by simp))
  generalize upd H12 p3 _ = H13 at k13 ⊢
  have s13:=same_keep s17 k13 hF1
  have B13:=B1.same s13
  have A13:=A'.keep k13 hF fun y hy z=>hF6 y z (fr' y (List.mem_cons_of_mem _ hy))
  and_intros
  refine hmeth_go B13.S (fun R r=>⟨_,rfl,r⟩) rfl ?_
  and_intros
  refine ⟨x,dx,pr,pt,pk,L,h,j,kvs,ks,as,R,rfl,B13.S,by omega,B.W.nd,by omega,B.W.tnd,B13.A.lst,B13.A.row,by omega,fun H14 w w1 w2 w3 es ts2 us2 ws2 s14 To2 A2 _ _=>?_⟩
  obtain ⟨rfl,rfl⟩:=To.one To2
  refine eq_states A2 (A13.same s14) ok7 ⟨_,rfl,?_⟩
  and_intros
  have B14:=B13.same s14
  refine hmeth_go B14.S (fun R r=>⟨_,rfl,r⟩) rfl ⟨x,dx,pr,pt,pk,L,h,j,kvs,ks,rfl,B14.S,by omega,B.W.nd,fun H15 p9 zs9 s15 hp9 up mem=>?_⟩
  cases Z.one ⟨up,mem⟩
  have s16:=((s13.trans s14).trans s15).new hp9 (o:=.lst (zs.map strV))
  refine ⟨p9,p4,zs,zs,rfl,rfl,SqL.here,SqL.of (s16 _ _ l4i),okz,okz,?_⟩
  rw [decide_eq_true rfl]
  exact q _ (s1.trans s16)
end K60
namespace L2
open PySem PySem.Spec PyProof.Rows MM
section
variable {C:Addr} {H H':Hp} {x dx pr pt pk:Addr} {as:List Addr} {pm q1 q2 q3:Addr} {bs:List Addr} {L h j:Nat} {R:List (List RwN)} {kvs:List (List Nat × List Nat)} {ks:List (List Nat)} {f:Addr} {kv:List (Key × V)}
theorem ne_kind {H:Hp} {a f:Addr} {o u:HO} (ha:H a = some o) (hf:H f = some u) (n:o ≠ u):a ≠ f:=fun z=>by
  subst z
  exact n (Option.some.inj (ha.symm.trans hf))
theorem Hnd.keep1 (S:Hnd C H x dx pr pt pk L h j kvs ks) (k:Keeps [f] H H') (h1:x ≠ f) (h2:dx ≠ f) (h3:pt ≠ f) (h4:pk ≠ f):Hnd C H' x dx pr pt pk L h j kvs ks:=
  ⟨k _ _ S.ins (fun z=>h1 (List.mem_singleton.mp z)),k _ _ S.own (fun z=>h2 (List.mem_singleton.mp z)),k _ _ S.tho (fun z=>h3 (List.mem_singleton.mp z)),k _ _ S.tak (fun z=>h4 (List.mem_singleton.mp z)),S.apart⟩
theorem RowsC.ne {as:List Addr} {R:List (List RwN)} (A:RowsC H as R) {u:HO} (hf:H f = some u) (n:∀ xs,u ≠ .lst xs):∀ a ∈ as,a ≠ f:=fun a ha=>by
  obtain ⟨i,hi⟩:=List.getElem?_of_mem ha
  obtain ⟨_,xs,_,w,_⟩:=A.get hi
  exact ne_kind w hf fun z=>n xs z.symm
theorem Ren.keep1 (A:Ren H pr as R) (k:Keeps [f] H H') {u:HO} (hf:H f = some u) (nt:∀ ys,u ≠ .tup ys) (h1:pr ≠ f) (h2:∀ a ∈ as,a ≠ f):Ren H' pr as R:=
  ⟨k _ _ A.lst (fun z=>h1 (List.mem_singleton.mp z)),A.row.keep k (fun t ht ys e=>by rw [List.mem_singleton.mp ht,hf] at e; exact nt ys (Option.some.inj e)) fun a ha z=>h2 a ha (List.mem_singleton.mp z),A.out⟩
theorem Mdl.keep1 (M:Mdl H pm q1 q2 q3 bs R kvs ks) (k:Keeps [f] H H') {u:HO} (hf:H f = some u) (nt:∀ ys,u ≠ .tup ys) (h0:pm ≠ f) (h1:q1 ≠ f) (h2:q2 ≠ f) (h3:q3 ≠ f) (h4:∀ a ∈ bs,a ≠ f):Mdl H' pm q1 q2 q3 bs R kvs ks:=
  ⟨k _ _ M.top (fun z=>h0 (List.mem_singleton.mp z)),M.ren.keep1 k hf nt h1 h4,k _ _ M.thi (fun z=>h2 (List.mem_singleton.mp z)),k _ _ M.tak (fun z=>h3 (List.mem_singleton.mp z)),M.n23,M.n2,M.n3⟩
theorem Mdl.keepF {F:List Addr} (M:Mdl H pm q1 q2 q3 bs R kvs ks) (k:Keeps F H H') (nt:∀ t ∈ F,∀ ys,H t ≠ some (.tup ys)) (h0:pm ∉ F) (h1:q1 ∉ F) (h2:q2 ∉ F) (h3:q3 ∉ F) (h4:∀ a ∈ bs,a ∉ F):Mdl H' pm q1 q2 q3 bs R kvs ks:=
  ⟨k _ _ M.top h0,⟨k _ _ M.ren.lst h1,M.ren.row.keep k nt h4,M.ren.out⟩,k _ _ M.thi h2,k _ _ M.tak h3,M.n23,M.n2,M.n3⟩
theorem Keeps.upd0 {F:List Addr} {p:Addr} {o:HO} (k:Keeps F H H') (h:H p = none):Keeps F H (L2.upd H' p o):=fun y u e n=>by
  rw [upd_ne (fun z=>by subst z; rw [h] at e; cases e)]
  exact k y u e n
theorem Keeps.mono {F G:List Addr} (k:Keeps F H H') (h:∀ b ∈ F,b ∈ G):Keeps G H H':=fun b o e n=>k b o e fun z=>n (h b z)
theorem rec_thi (q1 q2 q3 p:Addr):putK (recD q1 q2 q3) (Key.inr (txt kThi)) (.ref p) = recD q1 p q3:=by
  have h1:¬ (Key.inr (txt kRen):Key) = Key.inr (txt kThi):=key_ne (by decide)
  have h2:¬ (Key.inr (txt kTak):Key) = Key.inr (txt kThi):=key_ne (by decide)
  simp [putK,recD,h1,h2]
theorem rec_tak (q1 q2 q3 p:Addr):putK (recD q1 q2 q3) (Key.inr (txt kTak)) (.ref p) = recD q1 q2 p:=by
  have h1:¬ (Key.inr (txt kRen):Key) = Key.inr (txt kTak):=key_ne (by decide)
  have h2:¬ (Key.inr (txt kThi):Key) = Key.inr (txt kTak):=key_ne (by decide)
  simp [putK,recD,h1,h2]
end
theorem ifs_any {tt:TT} {ta tb:TS} {D:Ends} {σ:L2.St} {H:Hp} (h:∀ (A B:L2.St→Hp→Prop),(∀ σ H,ta D σ H→A σ H)→(∀ σ H,tb D σ H→B σ H)→tIfS tt (fun _ σ H=>A σ H) (fun _ σ H=>B σ H) D σ H):tIfS tt ta tb D σ H:=h _ _ (fun _ _ z=>z) (fun _ _ z=>z)
theorem eq_pairsT {K:PySem.W.Frag} {H:Hp} {a b:Addr} {xs ys:List V} {ps:List (V × V)} {Q:VK} (ha:SqL K H a xs) (hb:SqL K H b ys) (pa:Prs H xs ps) (pb:Prs H ys ps) (ok:∀ p ∈ ps,OkV p.1∧OkV p.2) (q:Q (.bl true) H):rEqD K (.ref a) (.ref b) H Q:=by
  refine ⟨.list (pairD ps),.list (pairD ps),.lst ha (pa.dat ok),.lst hb (pb.dat ok),shaped_pairs ok,shaped_pairs ok,?_⟩
  rw [SeqAt.eqv_refl _ (SeqAt.canLay_of_shaped (shaped_pairs ok))]
  exact q
end L2
namespace K60
open PySem PySem.Spec PyProof.Rows L2 MM
def DeedQ (C:Addr) (H:Hp) (Q:VK) (x dx pr pt pk:Addr) (pm q1 q2 q3:Addr) (L h j:Nat) (R:List (List RwN)) (k b:Nat):Prop:=
  ∀ H' pt' pk' as' q2' q3' bs' R' kvs' ks' k' b',Keeps [x,pr,pt,pk,pm,q1,q2,q3] H H'→(∀ o ∈ [pt',pk',q2',q3'],o ∈ [pt,pk,q2,q3] ∨ H o = none)→Both C H' x dx pr pt' pk' as' pm q1 q2' q3' bs' L h j R' kvs' ks' k' b'→k' ≤ k + 1→b' ≤ b + 1→k' ≤ b'→R'.length ≤ R.length + 1→Q (.bl true) H'
section
variable {K:PySem.W.Frag} {a:Ad} {H H1:Hp} {Q:VK} {sc:Addr} {ns:List Int} {d:Nat} {x dx pr pt pk:Addr} {as:List Addr} {ps pm q1 q2 q3:Addr} {bs:List Addr} {L h j:Nat} {R:List (List RwN)} {kvs:List (List Nat × List Nat)} {ks:List (List Nat)} {k b:Nat} {p6:Addr} {zs:List (List Nat)} {way:Int}
theorem deed_put (hS:SqL K H sc (ns.map V.int)) (hl:ns.length ≤ 63) (hd:d ≤ 1000) (hps:H ps = some (.tup [.int L,.int h])) (B:Both a.k_Hand H x dx pr pt pk as pm q1 q2 q3 bs L h j R kvs ks k b) (hk:k ≤ 61) (hb:b ≤ 500) (hkb:k ≤ b) (q:DeedQ a.k_Hand H Q x dx pr pt pk pm q1 q2 q3 L h j R k b)
    (s1:Same H H1) (l6:H1 p6 = some (.lst (zs.map strV))) (Z:Shown kvs ks zs) (w0:0 ≤ way) (w1:way < 8) :
    (tSeq (tAsg (tCall (spDraw K) [] E0 (tCons (tVar 0) (tCons (tOp rAddI (tVar 1) (tC (.int 1))) (tCons (tOp rAddI (tCB (rLenL K) (tCons (tVar 6) tNil)) (tC (.int 1))) tNil)))) (gName 8))
      (tSeq (tIfS (tTest (tOp rGtI (tVar 7) (tC (.int 5)))) (tAsg (tOp (rIxL K) (tLst (tCons (tC (.int 0)) (tCons (tCB (rLenL K) (tCons (tVar 6) tNil)) tNil))) (tOp rSubI (tVar 7) (tC (.int 6)))) (gName 8)) (tNext))
      (tSeq (tAsg (tCall (spHThing K) [] E0 (tCons (tVar 0) (tCons (tOp rAddI (tVar 1) (tC (.int 2))) tNil))) (gName 15))
      (tRet (tOp rEq (tMeth a.k_Hand "put" (spHPut a.k_Hand a.c_NoThing a.c_NoPlace) [] E0 (tVar 3) (tCons (tVar 8) (tCons (tVar 15) tNil))) (tCall (spLPut K) [] E0 (tCons (tVar 2) (tCons (tVar 4) (tCons (tVar 5) (tCons (tVar 8) (tCons (tVar 15) tNil)))))))))))
      { nx:=fun _ H'=>Q .non H',rt:=Q } [some (.ref sc),some (.int d),some (.ref ps),some (.ref x),some (.int j),some (.ref pm),some (.ref p6),some (.int way),none,none,none,none,none,none,none,none] H1:=by
  have zl:=Z.len B.W
  have few:=B.W.few
  have tkn:=B.W.taken
  have hS1:=s1.seq hS
  refine seq_set fun c hc=>?_
  and_intros
  refine lenL_go (SqL.of l6) ⟨_,rfl,?_⟩
  rw [List.length_map]
  refine ⟨sc,ns,_,_,rfl,hS1,hl,by omega,by omega,by omega,fun i i0 i1=>hc _ _ ?_⟩
  clear hc c
  simp only [List.set_cons_zero,List.set_cons_succ]
  refine seq_any fun c hc=>?_
  suffices main:∀ (i:Int) H2,Same H1 H2→0 ≤ i→i ≤ zs.length→c [some (.ref sc),some (.int d),some (.ref ps),some (.ref x),some (.int j),some (.ref pm),some (.ref p6),some (.int way),some (.int i),none,none,none,none,none,none,none] H2 by
    and_intros
    by_cases z:5 < way
    · rw [if_pos z]
      refine lenL_go (SqL.of l6) ⟨by decide,fun p hp=>?_⟩
      rw [List.length_map]
      refine ixI_go (ns:=[0,(zs.length:Int)]) SqL.here (by omega) (by simp only [List.length_cons,List.length_nil]; omega) fun y hy _=>main y _ (Same.up _ hp) ?_ ?_
      · simp only [List.mem_cons,List.not_mem_nil,or_false] at hy
        omega
      · simp only [List.mem_cons,List.not_mem_nil,or_false] at hy
        omega
    · rw [if_neg z]
      exact main i H1 (Same.refl _) i0 (by omega)
  intro i H2 s2 i0 i1
  refine hc _ _ ?_
  clear hc c
  have s12:=s1.trans s2
  refine seq_set fun c hc=>?_
  and_intros
  refine ⟨sc,ns,_,rfl,s2.seq hS1,hl,by omega,by omega,fun H3 t s3 th tl=>hc _ _ ?_⟩
  clear hc c
  have s13:=s12.trans s3
  have B3:=B.same s13
  and_intros
  refine hmeth_go B3.S (fun R r=>⟨_,rfl,r⟩) rfl ?_
  and_intros
  refine ⟨x,dx,pr,pt,pk,L,h,j,kvs,ks,k,b,i,t,rfl,B3.S,B.D,B.W,by omega,by omega,by omega,fun n=>absurd th n,fun zs' Z'=>?_⟩
  cases Z.one Z'
  refine ⟨fun _ _ H4 v n w m kp FB Fo S4 W4=>?_,fun _ ni=>absurd ⟨i0,i1⟩ ni⟩
  have q1t:q1 ≠ pt:=ne_kind B.M.ren.lst B.S.tho (fun z=>nomatch z)
  have bst:∀ y ∈ bs,y ≠ pt:=B.M.ren.row.ne B.S.tho (fun _ z=>nomatch z)
  have x2:x ≠ q2:=ne_kind B.S.ins B.M.thi (fun z=>nomatch z)
  have d2:dx ≠ q2:=ne_kind B.S.own B.M.thi (fun z=>nomatch z)
  have r2:pr ≠ q2:=ne_kind B.A.lst B.M.thi (fun z=>nomatch z)
  have as2:∀ y ∈ as,y ≠ q2:=B.A.row.ne B.M.thi (fun _ z=>nomatch z)
  have M4:=B3.M.keep1 kp B3.S.tho (fun _ z=>nomatch z) B.n5 q1t (Ne.symm B.n1) (Ne.symm B.n2) bst
  have A4:=B3.A.keep1 kp B3.S.tho (fun _ z=>nomatch z) (ne_kind B.A.lst B.S.tho (fun z=>nomatch z)) (B.A.row.ne B.S.tho (fun _ z=>nomatch z))
  have hps4:=kp _ _ (s13 _ _ hps) (fun z=>by rw [List.mem_singleton.mp z,B.S.tho] at hps; cases hps)
  refine ⟨ps,pm,q1,q2,q3,bs,R,kvs,ks,L,h,j,k,b,i,t,zs,v,n,w,m,rfl,SqT.of hps4,B.D,M4,B.W,by omega,by omega,Z,⟨i0,i1⟩,FB,Fo,fun H5 k5 M5=>⟨rfl,?_⟩⟩
  and_intros
  refine q H5 pt pk as q2 q3 bs R (kvs ++ [(m,t)]) ks (k + 1) (b + 1) (((s13.keeps _).trans (kp.mono (by simp))).trans (k5.mono (by simp))) (fun o ho=>.inl ho)
    ⟨S4.keep1 k5 x2 d2 B.n1 B.n3,A4.keep1 k5 M4.thi (fun _ z=>nomatch z) r2 as2,M5,B.D,W4,B.F,B.n1,B.n2,B.n3,B.n4,B.n5,B.n6,B.n7,B.n8,B.n9⟩ (by omega) (by omega) (by omega) (by omega)
def ThInv (H:Hp) (p10:Addr) (kvs:List (List Nat × List Nat)) (rw:List RwN) (σ1:L2.St):Nat→L2.St→Hp→Prop:=fun i σ H'=>∃ v11 v12,Keeps [p10] H H'∧H' p10 = some (.dK (thD (newK kvs (rw.take i))))∧σ = σ1 ++ [v11,v12,none,none,none]
theorem deed_renew (hd:d ≤ 1000) (hps:H ps = some (.tup [.int L,.int h])) (B:Both a.k_Hand H x dx pr pt pk as pm q1 q2 q3 bs L h j R kvs ks k b) (hk:k ≤ 61) (hkb:k ≤ b) (hRl:R.length ≤ 99) (q:DeedQ a.k_Hand H Q x dx pr pt pk pm q1 q2 q3 L h j R k b)
    (s1:Same H H1) (hw2:way = 2) (hj:j = 0) {c0:L2.St→Hp→Prop} :
    (tSeq (tAsg (tCall (spLRows K) [] E0 (tCons (tOp (rIxT K) (tVar 2) (tC (.int 0))) (tCons (tVar 5) tNil))) (gName 9))
      (tSeq (tAsg tDNewK (gName 10))
      (tSeq (tFor (iList K (tVar 9)) (gTup K 2 (gCons (gName 11) (gCons (gName 12) gNil))) (tIfS (tB (tNotN (tVar 12))) (sDPut (tVar 10) (tVar 12) (tDGet (tDGet (tVar 5) (tC (.str (txt [116,104,105,110,103,115])))) (tVar 11))) (tNext)))
      (tSeq (tDrop (tBM K "list" rAppend (tDGet (tVar 5) (tC (.str (txt [114,101,110,101,119,97,108,115])))) (tCons (tVar 9) tNil)))
      (tSeq (sDPut (tVar 5) (tC (.str (txt [116,104,105,110,103,115]))) (tVar 10))
      (tSeq (sDPut (tVar 5) (tC (.str (txt [116,97,107,101,110]))) tDNewK)
      (tSeq (tAsg (tMeth a.k_Hand "renew" (spHRenew a.k_Hand a.c_NoHand) [] E0 (tVar 3) tNil) (gName 13))
      (tSeq (tAsg (tAndV (tIsi K "list" (tVar 13)) (tOp (rEqD K) (tVar 13) (tVar 9))) (gName 14))
      (tSeq (tDrop (tBM K "list" rAppend (tVar 13) (tCons (tTup (tCons (tC (.str (txt [98]))) (tCons (tC .non) tNil))) tNil)))
      (tRet (tVar 14)))))))))))
      { nx:=c0,rt:=Q } [some (.ref sc),some (.int d),some (.ref ps),some (.ref x),some (.int j),some (.ref pm),some (.ref p6),some (.int way),none,none,none,none,none,none,none,none] H1:=by
  have few:=B.W.few
  have hL26:=B.D.l26
  have hps1:=s1 _ _ hps
  have B1:=B.same s1
  refine seq_set fun c hc=>?_
  and_intros
  refine ixT_go (v:=.int L) (SqT.of hps1) (by decide) rfl ⟨L,pm,q1,q2,q3,bs,R,kvs,ks,k,b,rfl,B.D.l2,hL26,B1.M,B.W,by omega,fun H2 p9 ys zs2 n s2 f9 AK IR l9 pr9=>hc _ _ ?_⟩
  clear hc c
  have s2:=s1.trans s2
  have f9:=s1.free1 f9
  have WR:=B.W.renew B.D.l2 AK IR
  have olds:∀ y ∈ renR L zs2 ks n,y.1 ∈ kvs.map (·.1):=fun y hy=>AK.perm.mem_iff.mp (renR_old hy)
  have news:((renR L zs2 ks n).filterMap (·.2)).Nodup:=by rw [renR_news]; exact nodup_up (renL_lt (by have:=B.D.l2; omega) IR)
  have fine:(renR L zs2 ks n).length ≤ 62∧∀ y ∈ renR L zs2 ks n,PyData.strOk (txt y.1) = true∧∀ z,y.2 = some z→PyData.strOk (txt z) = true:=by
    refine ⟨?_,fun y hy=>⟨strOk_mark hL26 (B.W.mark (olds y hy)).1.ls,fun z hz=>?_⟩⟩
    · have:=congrArg List.length (rowsR_olds (renL L (stand (knO zs2 ks)) n) 0 (knO zs2 ks))
      rw [List.length_map,List.length_map] at this
      have e2:(knO zs2 ks).length = zs2.length:=by rw [knO,List.length_map]
      have e3:=AK.perm.length_eq
      rw [List.length_map] at e3
      unfold renR
      omega
    · have:z ∈ (renR L zs2 ks n).filterMap (·.2):=List.mem_filterMap.mpr ⟨y,hy,hz⟩
      rw [renR_news] at this
      exact strOk_mark hL26 (renL_mem (by have:=B.D.l2; omega) IR z this).1.ls
  have yl:=pr9.len
  rw [List.length_map] at yl
  refine seq_set fun c hc=>?_
  unfold tDNewK
  refine fun p10 hp10=>hc _ _ ?_
  clear hc c
  have s3:=s2.new hp10 (o:=.dK [])
  have u3:=Same.up H2 hp10 (o:=.dK [])
  have l10:(upd H2 p10 (.dK [])) p10 = some (.dK (thD (newK kvs ((renR L zs2 ks n).take 0)))):=upd_same
  have f10:=s2.free1 hp10
  have n910:p9 ≠ p10:=fun z=>by subst z; rw [l9] at hp10; cases hp10
  generalize upd H2 p10 _ = H3 at s3 u3 l10 ⊢
  have B3:=B.same s3
  have l93:=u3 _ _ l9
  have pr93:=pr9.same u3
  have ex10:∀ {y:Addr} {u:HO},H y = some u→y ≠ p10:=fun e z=>by subst z; rw [f10] at e; cases e
  have ro10:∀ {as:List Addr} {R:List (List RwN)},RowsC H as R→∀ y ∈ as,y ≠ p10:=fun A y hy=>by
    obtain ⟨i,hi⟩:=List.getElem?_of_mem hy
    obtain ⟨_,_,_,w,_⟩:=A.get hi
    exact ex10 w
  simp only [List.set_cons_zero,List.set_cons_succ]
  refine seq_any fun c hc=>?_
  refine for_l (a:=p9) (xs:=ys) (fun Q h=>⟨_,rfl,h⟩) (SqL.of l93) (ThInv H3 p10 kvs (renR L zs2 ks n) [some (.ref sc),some (.int d),some (.ref ps),some (.ref x),some (.int j),some (.ref pm),some (.ref p6),some (.int way),none,some (.ref p9),some (.ref p10)]) ⟨none,none,fun b o e _=>e,l10,rfl⟩ (fun i σ H' _ h=>?_) ?_ ?_
  · obtain ⟨_,_,k',_⟩:=h
    exact SqL.of (k' _ _ l93 fun z=>n910 (List.mem_singleton.mp z))
  · rintro i y σ H' hy ⟨v11,v12,k',l',rfl⟩
    obtain ⟨pp,t,e1,rfl,ht⟩:=pr93.get hy
    rw [List.getElem?_map] at e1
    obtain ⟨⟨o,w⟩,ey,rfl⟩:=Option.map_eq_some_iff.mp e1
    have hi62:i < 62:=by
      have:=(List.getElem?_eq_some_iff.mp ey).1
      have:=fine.1
      omega
    have ht':=k' _ _ ht (fun z=>by rw [List.mem_singleton.mp z,l10] at ht; cases ht)
    have M':=B3.M.keep1 k' l10 (fun _ z=>nomatch z) (ex10 B.M.top) (ex10 B.M.ren.lst) (ex10 B.M.thi) (ex10 B.M.tak) (ro10 B.M.ren.row)
    have etk:(renR L zs2 ks n).take (i + 1) = (renR L zs2 ks n).take i ++ [(o,w)]:=by rw [List.take_add_one,ey]; rfl
    have hmk:=olds _ (List.mem_of_getElem? ey)
    simp? [gTup,gCons,gNil,rowP,List.cons_append,List.nil_append]
    refine ⟨[strV o,oV w],SqT.of ht',rfl,strV o,[oV w],rfl,oV w,[],rfl,rfl,?_⟩
    cases w with
    | none=>
      simp? [oV]
      refine ⟨_,_,k',?_,rfl⟩
      rw [etk,newK,List.filterMap_append]
      simpa [newK] using l'
    | some w=>
      simp? [strV,oV,sDPut]
      refine mGet_go (v:=o) M' (fun R r=>mThi_go M' rfl r) rfl hmk ⟨_,DPut.k (k:=Key.inr (txt w)) l' (by
        rw [thD,List.length_map,newK,sizeLine_eq]
        have:=List.length_filterMap_le (fun r:RwN=>r.2.map fun n=>(n,thingOf kvs r.1)) ((renR L zs2 ks n).take i)
        rw [List.length_take] at this
        omega),_,_,k'.upd (.inl List.mem_cons_self),?_,rfl⟩
      have nw:¬ w ∈ (newK kvs ((renR L zs2 ks n).take i)).map (·.1):=by
        rw [newK_keys]
        have sub:(((renR L zs2 ks n).take (i + 1)).filterMap (·.2)).Nodup:=news.sublist ((List.take_sublist _ _).filterMap _)
        rw [etk,List.filterMap_append,List.nodup_append] at sub
        exact fun z=>sub.2.2 w z w (by simp) rfl
      rw [upd_same,thD_put _ nw,etk,newK,newK,List.filterMap_append]
      rfl
  rintro σ H4 ⟨v11,v12,k4,l4,rfl⟩
  rw [yl,List.take_length] at l4
  refine hc _ _ ?_
  clear hc c
  have s4:=same_keep s3 k4 (fun b hb=>by rw [List.mem_singleton.mp hb]; exact f10)
  have l94:=k4 _ _ l93 fun z=>n910 (List.mem_singleton.mp z)
  have pr94:=pr93.keep fun t ys e=>k4 t _ e (fun z=>by rw [List.mem_singleton.mp z,l10] at e; cases e)
  have B4:=B.same s4
  have n9q:q1 ≠ p9:=fun z=>by rw [← z,B.M.ren.lst] at f9; cases f9
  have n9:∀ {y:Addr} {u:HO},H y = some u→y ≠ p9:=fun e z=>by subst z; rw [f9] at e; cases e
  have s24:=s4
  generalize hrw:renR L zs2 ks n = rw at olds fine l4 pr94 WR pr9 pr93 yl news
  have bl:=B.M.ren.row.len
  simp only [List.cons_append,List.nil_append]
  -- the renewal kept
  refine seq_any fun c hc=>?_
  and_intros
  refine mRen_go B4.M rfl ⟨.inl ⟨rfl,_,SqL.of B4.M.ren.lst⟩,append_go B4.M.ren.lst (by rw [List.length_map]; omega) (hc _ _ ?_)⟩
  clear hc c
  have kq1:Keeps [q1] H4 (upd H4 q1 (.lst (bs.map V.ref ++ [.ref p9]))):=Keeps.upd (fun b o e _=>e) (.inl List.mem_cons_self)
  have e1:(upd H4 q1 (.lst (bs.map V.ref ++ [.ref p9]))) q1 = some (.lst ((bs ++ [p9]).map V.ref)):=by rw [upd_same,List.map_append]; rfl
  have k5:Keeps [x,pr,pt,pk,pm,q1,q2,q3] H (upd H4 q1 (.lst (bs.map V.ref ++ [.ref p9]))):=(s4.keeps _).upd (.inl (by simp))
  generalize upd H4 q1 _ = H5 at kq1 e1 k5 ⊢
  have to5:∀ {y:Addr} {u:HO},y ≠ q1→H4 y = some u→H5 y = some u:=fun n e=>kq1 _ _ e fun z=>n (List.mem_singleton.mp z)
  have t4:H4 q1 = some (.lst (bs.map V.ref)):=B4.M.ren.lst
  have ne1:∀ {y:Addr} {u:HO},H4 y = some u→(∀ xs,u ≠ .lst xs)→y ≠ q1:=fun e n=>ne_kind e t4 (n _)
  have top5:=to5 (ne1 B4.M.top (fun _ z=>nomatch z)) B4.M.top
  have l105:=to5 (ne1 l4 (fun _ z=>nomatch z)) l4
  have l95:=to5 (Ne.symm n9q) l94
  have pr95:=pr94.keep fun t ys e=>to5 (ne1 e (fun _ z=>nomatch z)) e
  have S5:Hnd a.k_Hand H5 x dx pr pt pk L h j kvs ks:=B4.S.keep1 kq1 (ne1 B4.S.ins (fun _ z=>nomatch z)) (ne1 B4.S.own (fun _ z=>nomatch z)) (ne1 B4.S.tho (fun _ z=>nomatch z)) (ne1 B4.S.tak (fun _ z=>nomatch z))
  have A5:Ren H5 pr as R:=B4.A.keep1 kq1 t4 (fun _ z=>nomatch z) B.n7 fun y hy z=>B.n9 (by rw [← z]; exact hy)
  have rows5:RowsC H5 bs R:=B4.M.ren.row.keep kq1 (fun t ht ys e=>by rw [List.mem_singleton.mp ht,t4] at e; cases e) fun y hy z=>B.M.ren.out (by rw [← List.mem_singleton.mp z]; exact hy)
  have rows5':RowsC H5 (bs ++ [p9]) (R ++ [rw]):=rows5.app (show RowsC H5 [p9] [rw] from ⟨⟨ys,l95,pr95⟩,trivial⟩)
  have q25:=to5 (ne1 B4.M.thi (fun _ z=>nomatch z)) B4.M.thi
  have q35:=to5 (ne1 B4.M.tak (fun _ z=>nomatch z)) B4.M.tak
  have free5:∀ y,H5 y = none→H y = none:=fun y hy=>by
    cases w:H y with
    | none=>rfl
    | some u=>
      exfalso
      have:=k5 y u w fun z=>by
        simp only [List.mem_cons,List.not_mem_nil,or_false] at z
        rcases z with rfl | rfl | rfl | rfl | rfl | rfl | rfl | rfl
        · rw [S5.ins] at hy; cases hy
        · rw [A5.lst] at hy; cases hy
        · rw [S5.tho] at hy; cases hy
        · rw [S5.tak] at hy; cases hy
        · rw [top5] at hy; cases hy
        · rw [e1] at hy; cases hy
        · rw [q25] at hy; cases hy
        · rw [q35] at hy; cases hy
      rw [hy] at this; cases this
  -- the things kept
  refine seq_any fun c hc=>?_
  simp? [sDPut]
  refine ⟨_,DPut.k (k:=Key.inr (txt kThi)) top5 (show 3 < sizeLine by decide),hc _ _ ?_⟩
  clear hc c
  rw [rec_thi]
  have kp6:Keeps [pm] H5 (upd H5 pm (.dK (recD q1 p10 q3))):=Keeps.upd (fun b o e _=>e) (.inl List.mem_cons_self)
  have top6:(upd H5 pm (.dK (recD q1 p10 q3))) pm = some (.dK (recD q1 p10 q3)):=upd_same
  have k6:Keeps [x,pr,pt,pk,pm,q1,q2,q3] H (upd H5 pm (.dK (recD q1 p10 q3))):=k5.upd (.inl (by simp))
  generalize upd H5 pm _ = H6 at kp6 top6 k6 ⊢
  refine seq_any fun c hc=>?_
  simp? [sDPut,tDNewK]
  refine fun p11 hp11=>?_
  have n11:∀ {y:Addr} {u:HO},H6 y = some u→y ≠ p11:=fun e z=>by subst z; rw [hp11] at e; cases e
  refine ⟨_,DPut.k (k:=Key.inr (txt kTak)) (kvs:=recD q1 p10 q3) (by rw [upd_ne (n11 top6)]; exact top6) (show 3 < sizeLine by decide),hc _ _ ?_⟩
  clear hc c
  rw [rec_tak]
  have k8:Keeps [x,pr,pt,pk,pm,q1,q2,q3] H (upd (upd H6 p11 (.dK [])) pm (.dK (recD q1 p10 p11))):=(k6.upd (.inr hp11)).upd (.inl (by simp))
  have top8:(upd (upd H6 p11 (.dK [])) pm (.dK (recD q1 p10 p11))) pm = some (.dK (recD q1 p10 p11)):=upd_same
  have l118:(upd (upd H6 p11 (.dK [])) pm (.dK (recD q1 p10 p11))) p11 = some (.dK (tkD [])):=by rw [upd_ne (Ne.symm (n11 top6)),upd_same]; rfl
  have kp8:Keeps [pm] H5 (upd (upd H6 p11 (.dK [])) pm (.dK (recD q1 p10 p11))):=(kp6.upd (.inr hp11)).upd (.inl List.mem_cons_self)
  have npm11:=n11 top6
  have npm10:pm ≠ p10:=ex10 B.M.top
  have n1011:p10 ≠ p11:=n11 (kp6 _ _ l105 (fun z=>npm10 (List.mem_singleton.mp z).symm))
  have f11:H p11 = none:=free5 _ (by
    cases w:H5 p11 with
    | none=>rfl
    | some u=>
      have:=kp6 _ _ w (fun z=>npm11 (List.mem_singleton.mp z).symm)
      rw [hp11] at this; cases this)
  generalize upd (upd H6 p11 _) pm _ = H8 at k8 top8 l118 kp8 ⊢
  clear k6 kp6 top6 n11
  have nem:∀ {y:Addr} {u:HO},H5 y = some u→(∀ xs,u ≠ .dK xs)→y ≠ pm:=fun e n=>ne_kind e top5 (n _)
  have to8:∀ {y:Addr} {u:HO},y ≠ pm→H5 y = some u→H8 y = some u:=fun n e=>kp8 _ _ e fun z=>n (List.mem_singleton.mp z)
  have l108:=to8 (Ne.symm npm10) l105
  have l98:=to8 (nem l95 (fun _ z=>nomatch z)) l95
  have pr98:=pr95.keep fun t ys e=>to8 (nem e (fun _ z=>nomatch z)) e
  have e18:=to8 (nem e1 (fun _ z=>nomatch z)) e1
  have S8:Hnd a.k_Hand H8 x dx pr pt pk L h j kvs ks:=S5.keep1 kp8 (nem S5.ins (fun _ z=>nomatch z)) (nem S5.own (fun _ z=>nomatch z)) (Ne.symm B.n5) (Ne.symm B.n6)
  have A8:Ren H8 pr as R:=A5.keep1 kp8 top5 (fun _ z=>nomatch z) (nem A5.lst (fun _ z=>nomatch z)) (A5.row.ne top5 (fun _ z=>nomatch z))
  have rows8:RowsC H8 (bs ++ [p9]) (R ++ [rw]):=rows5'.keep kp8 (fun t ht ys e=>by rw [List.mem_singleton.mp ht,top5] at e; cases e) fun y hy z=>rows5'.ne top5 (fun _ z=>nomatch z) y hy (List.mem_singleton.mp z)
  have M8:Mdl H8 pm q1 p10 p11 (bs ++ [p9]) (R ++ [rw]) (newK kvs rw) []:=⟨top8,⟨e18,rows8,fun z=>by
    rcases List.mem_append.mp z with z | z
    · exact B.M.ren.out z
    · exact n9q (List.mem_singleton.mp z)⟩,l108,l118,n1011,npm10,npm11⟩
  have free8:∀ y,H8 y = none→H y = none:=fun y hy=>free5 y (by
    cases w:H5 y with
    | none=>rfl
    | some u=>
      have:=kp8 _ _ w (fun z=>by rw [List.mem_singleton.mp z,top8] at hy; cases hy)
      rw [hy] at this; cases this)
  -- the hand's renewal
  refine seq_set fun c hc=>?_
  refine hmeth_go S8 (fun R r=>⟨_,rfl,r⟩) rfl ?_
  and_intros
  refine ⟨x,dx,pr,pt,pk,L,h,j,kvs,ks,k,b,as,R,rfl,S8,B.D,B.W,by omega,A8,by omega,fun z=>absurd hj z,fun _ H9 zs9 n9' pt' pk' r us o AK9 IR9 k9 S9 A9 lo po g1 g2 g3 g4 no=>hc _ _ ?_⟩
  clear hc c
  cases AK.one AK9
  cases IR.one IR9
  rw [hrw] at S9 A9 po
  have ne8:∀ {y:Addr} {u v:HO} {f:Addr},H8 y = some u→H8 f = some v→u ≠ v→y ≠ f:=fun e1 e2 n=>ne_kind e1 e2 n
  have inF:∀ {y:Addr} {u:HO},H8 y = some u→y ≠ pr→(∀ C d fs,u ≠ .ins C d fs)→y ∉ [x,pr]:=fun {y u} e n1 n2 z=>by
    rcases List.mem_cons.mp z with z | z
    · rw [z,S8.ins] at e; exact n2 _ _ _ (Option.some.inj e).symm
    · exact n1 (List.mem_singleton.mp z)
  have ntF:∀ t ∈ [x,pr],∀ ys,H8 t ≠ some (.tup ys):=fun t ht ys e=>by
    rcases List.mem_cons.mp ht with z | z
    · rw [z,S8.ins] at e; cases e
    · rw [List.mem_singleton.mp z,A8.lst] at e; cases e
  have npr9:pr ≠ p9:=n9 B.A.lst
  have M9:Mdl H9 pm q1 p10 p11 (bs ++ [p9]) (R ++ [rw]) (newK kvs rw) []:=M8.keepF k9 ntF (inF top8 (ne_kind top8 A8.lst (fun z=>nomatch z)) (fun _ _ _ z=>nomatch z)) (inF e18 (Ne.symm B.n7) (fun _ _ _ z=>nomatch z)) (inF l108 (ne_kind l108 A8.lst (fun z=>nomatch z)) (fun _ _ _ z=>nomatch z)) (inF l118 (ne_kind l118 A8.lst (fun z=>nomatch z)) (fun _ _ _ z=>nomatch z)) fun y hy=>by
    obtain ⟨i,hi⟩:=List.getElem?_of_mem hy
    obtain ⟨_,_,_,w,_⟩:=rows8.get hi
    refine inF w (fun z=>?_) (fun _ _ _ z=>nomatch z)
    rcases List.mem_append.mp hy with hy | hy
    · exact B.n8 (by rw [← z]; exact hy)
    · exact npr9 (by rw [← z]; exact List.mem_singleton.mp hy)
  have l99:=k9 _ _ l98 (inF l98 (Ne.symm npr9) (fun _ _ _ z=>nomatch z))
  have pr99:=pr98.keep fun t ys e=>k9 t _ e fun z=>ntF t z ys e
  have ul:=po.len
  rw [List.length_map] at ul
  have fl:=fine.1
  simp only [List.set_cons_zero,List.set_cons_succ]
  refine seq_set fun c hc=>?_
  and_intros
  refine isiL_go lo ⟨_,rfl,?_⟩
  and_intros
  refine eq_pairsT (SqL.of lo) (SqL.of l99) po pr99 (row_ok fine.2) (hc _ _ ?_)
  clear hc c
  refine seq_any fun c hc=>?_
  and_intros
  refine ⟨.inl ⟨rfl,_,SqL.of lo⟩,by decide,fun t ht=>?_⟩
  have not_:o ≠ t:=fun z=>by subst z; rw [lo] at ht; cases ht
  refine append_go (by rw [upd_ne not_]; exact lo) (by omega) (hc _ _ ?_)
  clear hc c
  have sT:=Same.up H9 ht (o:=.tup [.str (txt [98]),.non])
  have loT:=sT _ _ lo
  have ko:Keeps [o] (upd H9 t (.tup [.str (txt [98]),.non])) (upd (upd H9 t (.tup [.str (txt [98]),.non])) o (.lst (us ++ [.ref t]))):=Keeps.upd (fun b o e _=>e) (.inl List.mem_cons_self)
  have k10:Keeps [x,pr,pt,pk,pm,q1,q2,q3] H (upd (upd H9 t (.tup [.str (txt [98]),.non])) o (.lst (us ++ [.ref t]))):=((k8.trans (k9.mono (by simp))).upd (.inr ht)).upd0 (free8 o g4)
  have S9:=S9.same sT
  have A9:=A9.same sT
  have M9:=M9.same sT
  have neo:∀ {y:Addr} {u:HO},H8 y = some u→y ≠ o:=fun e z=>by subst z; rw [g4] at e; cases e
  have roo:∀ {as:List Addr} {R:List (List RwN)},RowsC H8 as R→∀ y ∈ as,y ≠ o:=fun A y hy=>by
    obtain ⟨i,hi⟩:=List.getElem?_of_mem hy
    obtain ⟨_,_,_,w,_⟩:=A.get hi
    exact neo w
  have S10:=S9.keep1 ko (ne_kind S9.ins loT (fun z=>nomatch z)) (ne_kind S9.own loT (fun z=>nomatch z)) (ne_kind S9.tho loT (fun z=>nomatch z)) (ne_kind S9.tak loT (fun z=>nomatch z))
  have A10:=A9.keep1 ko loT (fun _ z=>nomatch z) (neo A8.lst) fun y hy=>by
    rcases List.mem_append.mp hy with hy | hy
    · exact roo A8.row y hy
    · rw [List.mem_singleton.mp hy]; exact Ne.symm no
  have M10:=M9.keep1 ko loT (fun _ z=>nomatch z) (neo top8) (neo e18) (neo l108) (neo l118) (roo rows8)
  and_intros
  have ne':∀ {y f:Addr} {u:HO},H8 y = none→H8 f = some u→y ≠ f:=fun e1 e2 z=>by subst z; rw [e1] at e2; cases e2
  refine q _ pt' pk' (as ++ [r]) p10 p11 (bs ++ [p9]) (R ++ [rw]) (newK kvs rw) [] k k k10 (fun y hy=>.inr ?_)
    ⟨S10,A10,M10,B.D,WR,fun y hy=>?_,ne' g1 l108,ne' g1 l118,ne' g2 l108,ne' g2 l118,Ne.symm (ne' g1 top8),Ne.symm (ne' g2 top8),B.n7,fun z=>?_,fun z=>?_⟩ (by omega) (by omega) (Nat.le_refl _) (by rw [List.length_append]; exact Nat.le_refl _)
  · simp only [List.mem_cons,List.not_mem_nil,or_false] at hy
    rcases hy with rfl | rfl | rfl | rfl
    · exact free8 _ g1
    · exact free8 _ g2
    · exact f10
    · exact f11
  · rcases List.mem_append.mp hy with hy | hy
    · exact B.F y hy
    · rw [List.mem_singleton.mp hy]; exact fine
  · rcases List.mem_append.mp z with z | z
    · exact B.n8 z
    · exact npr9 (List.mem_singleton.mp z)
  · rcases List.mem_append.mp z with z | z
    · exact B.n9 z
    · exact ne' g3 e18 (List.mem_singleton.mp z).symm
end
theorem read_deed {K:PySem.W.Frag} {mg:Str→Option Value} {a:Ad} (T:Tx K mg a) {N:List Str} {vs:List V} {H:Hp} {Q:VK} {E:XK} (hN:N.length = 16) (h:spDeed K a.k_Hand vs H Q E):rd_deed K a { nx:=fun _ H'=>Q .non H',rt:=Q } (L2.start N vs) H:=by
  obtain ⟨sc,ns,d,x,dx,pr,pt,pk,as,ps,pm,q1,q2,q3,bs,L,h,j,R,kvs,ks,k,b,rfl,hS,hl,hd,hps,B,hk,hb,hkb,hRl,q⟩:=h
  have few:=B.W.few
  have tkn:=B.W.taken
  have hL26:=B.D.l26
  unfold rd_deed L2.start
  rw [hN]
  refine seq_set fun c hc=>?_
  and_intros
  refine ⟨pm,q1,q2,q3,bs,R,kvs,ks,rfl,B.M,by omega,B.W.nd,fun H1 p6 zs s1 f6 l6 Z=>hc _ _ ?_⟩
  clear hc c
  have B1:=B.same s1
  have zl:=Z.len B.W
  refine seq_set fun c hc=>?_
  and_intros
  refine ⟨sc,ns,_,_,rfl,s1.seq hS,hl,by omega,by omega,by decide,fun way w0 w1=>hc _ _ ?_⟩
  clear hc c
  simp only [List.set_cons_zero,List.set_cons_succ,List.replicate_succ,List.replicate_zero,List.map_cons,List.map_nil,List.cons_append,List.nil_append]
  have hS1:=s1.seq hS
  have hps1:=s1 _ _ hps
  have k1:Keeps [x,pr,pt,pk,pm,q1,q2,q3] H H1:=s1.keeps _
  -- kinds
  have x3:x ≠ q3:=ne_kind B.S.ins B.M.tak (fun z=>nomatch z)
  have d3:dx ≠ q3:=ne_kind B.S.own B.M.tak (fun z=>nomatch z)
  have r3:pr ≠ q3:=ne_kind B.A.lst B.M.tak (fun z=>nomatch z)
  have x2:x ≠ q2:=ne_kind B.S.ins B.M.thi (fun z=>nomatch z)
  have d2:dx ≠ q2:=ne_kind B.S.own B.M.thi (fun z=>nomatch z)
  have r2:pr ≠ q2:=ne_kind B.A.lst B.M.thi (fun z=>nomatch z)
  have q1t:q1 ≠ pt:=ne_kind B.M.ren.lst B.S.tho (fun z=>nomatch z)
  have q1k:q1 ≠ pk:=ne_kind B.M.ren.lst B.S.tak (fun z=>nomatch z)
  have ast:∀ y ∈ as,y ≠ q3:=B.A.row.ne B.M.tak (fun _ z=>nomatch z)
  have as2:∀ y ∈ as,y ≠ q2:=B.A.row.ne B.M.thi (fun _ z=>nomatch z)
  have bst:∀ y ∈ bs,y ≠ pt:=B.M.ren.row.ne B.S.tho (fun _ z=>nomatch z)
  have bsk:∀ y ∈ bs,y ≠ pk:=B.M.ren.row.ne B.S.tak (fun _ z=>nomatch z)
  refine seq_any fun c hc=>?_
  by_cases hw:way < 2∧0 < zs.length
  · -- a thing taken out
    clear hc
    refine ifs_any fun A B' hA hB=>?_
    and_intros
    rw [if_pos hw.1]
    refine lenL_go (SqL.of l6) ⟨_,rfl,?_⟩
    rw [List.length_map,if_pos (by omega)]
    refine hA _ _ ?_
    clear hA hB A B'
    refine seq_set fun c1 hc1=>?_
    and_intros
    refine lenL_go (SqL.of l6) ?_
    rw [List.length_map]
    refine ⟨sc,ns,_,_,rfl,hS1,hl,by omega,by omega,by omega,fun i i0 i1=>hc1 _ _ ?_⟩
    clear hc1 c1
    obtain ⟨m,hm⟩:=some_at (l:=zs) (i:=i.toNat) (by omega)
    have hmk:=(Z.mem m).mp (List.mem_of_getElem? hm)
    simp only [List.set_cons_zero,List.set_cons_succ]
    refine seq_any fun c1 hc1=>?_
    simp? [sDPut]
    refine mTak_go B1.M rfl (ixL_go (v:=strV m) (SqL.of l6) i0 (by rw [List.getElem?_map,hm]; rfl) ⟨q3,rfl,_,DPut.k (k:=Key.inr (txt m)) B1.M.tak (by rw [tkD,List.length_map,sizeLine_eq]; omega),hc1 _ _ ?_⟩)
    clear hc1 c1
    have M2:=B1.M.take hmk.2
    have kq:Keeps [q3] H1 (upd H1 q3 (.dK (putK (tkD ks) (Key.inr (txt m)) (.bl true)))):=Keeps.upd (fun b o e _=>e) (.inl List.mem_cons_self)
    have k2:=k1.upd (p:=q3) (o:=.dK (putK (tkD ks) (Key.inr (txt m)) (.bl true))) (.inl (by simp))
    generalize upd H1 q3 _ = H2 at M2 kq k2 ⊢
    have S2:=B1.S.keep1 kq x3 d3 B.n2 B.n4
    have A2:=B1.A.keep1 kq B1.M.tak (fun _ z=>nomatch z) r3 ast
    have l62:=kq _ _ l6 (fun z=>by rw [List.mem_singleton.mp z] at f6; rw [B.M.tak] at f6; cases f6)
    and_intros
    refine hmeth_go S2 (fun R r=>⟨_,rfl,r⟩) rfl ?_
    and_intros
    refine ⟨x,dx,pr,pt,pk,L,h,j,kvs,ks,i,rfl,S2,by omega,B.W.nd,by omega,fun zs' Z'=>?_⟩
    cases Z.one Z'
    refine ⟨fun _ H3 m' hm' kp S3=>?_,fun ni=>absurd ⟨i0,i1⟩ ni⟩
    rw [hm] at hm'
    cases hm'
    have l63:=kp _ _ l62 (fun z=>by rw [List.mem_singleton.mp z] at f6; rw [B.S.tak] at f6; cases f6)
    refine ixL_go (v:=strV m) (SqL.of l63) i0 (by rw [List.getElem?_map,hm]; rfl) ⟨rfl,?_⟩
    simp? [strV]
    refine q H3 pt pk as q2 q3 bs R kvs (ks ++ [m]) k b (k2.trans (kp.mono (by simp))) (fun o ho=>.inl ho)
      ⟨S3,A2.keep1 kp S2.tak (fun _ z=>nomatch z) (ne_kind A2.lst S2.tak (fun z=>nomatch z)) (A2.row.ne S2.tak (fun _ z=>nomatch z)),M2.keep1 kp S2.tak (fun _ z=>nomatch z) B.n6 q1k (Ne.symm B.n3) (Ne.symm B.n4) bsk,B.D,B.W.take hmk.1 hmk.2,B.F,B.n1,B.n2,B.n3,B.n4,B.n5,B.n6,B.n7,B.n8,B.n9⟩ (by omega) (by omega) hkb (by omega)
  have skip:c [some (.ref sc),some (.int d),some (.ref ps),some (.ref x),some (.int j),some (.ref pm),some (.ref p6),some (.int way),none,none,none,none,none,none,none,none] H1:=hc _ _ (by
    clear hc c
    refine seq_any fun c hc=>?_
    by_cases hw2:way = 2∧j = 0
    · clear hc
      obtain ⟨hw2,hj⟩:=hw2
      refine ifs_any fun A B' hA hB=>?_
      and_intros
      refine ⟨rfl,?_⟩
      rw [if_pos hw2]
      refine ⟨rfl,?_⟩
      rw [if_pos (by omega)]
      refine hA _ _ ?_
      exact deed_renew hd hps B hk hkb hRl q s1 hw2 hj
    · have go:c [some (.ref sc),some (.int d),some (.ref ps),some (.ref x),some (.int j),some (.ref pm),some (.ref p6),some (.int way),none,none,none,none,none,none,none,none] H1:=hc _ _ (deed_put hS hl hd hps B hk hb hkb q s1 l6 Z w0 w1)
      clear hc
      refine ifs_any fun A B' hA hB=>?_
      and_intros
      refine ⟨rfl,?_⟩
      by_cases z:way = 2
      · rw [if_pos z]
        refine ⟨rfl,?_⟩
        rw [if_neg (fun y=>hw2 ⟨z,by omega⟩)]
        exact hB _ _ go
      · rw [if_neg z]
        exact hB _ _ go)
  clear hc
  refine ifs_any fun A B' hA hB=>?_
  and_intros
  by_cases z:way < 2
  · rw [if_pos z]
    refine lenL_go (SqL.of l6) ⟨_,rfl,?_⟩
    rw [List.length_map,if_neg (fun y=>hw ⟨z,by omega⟩)]
    exact hB _ _ skip
  · rw [if_neg z]
    exact hB _ _ skip
end K60
namespace K60
open PySem PySem.Spec PyProof.Rows L2 MM
structure At (C:Addr) (H0 H:Hp) (x dx pr pm q1:Addr) (L h j n:Nat) (pt pk:Addr) (as:List Addr) (q2 q3:Addr) (bs:List Addr) (R:List (List RwN)) (kvs:List (List Nat × List Nat)) (ks:List (List Nat)) (k b:Nat):Prop where
  s:Same H0 H
  B:Both C H x dx pr pt pk as pm q1 q2 q3 bs L h j R kvs ks k b
  f:∀ o ∈ [x,pr,pt,pk,pm,q1,q2,q3],H0 o = none
  hk:k ≤ n
  hb:b ≤ n
  kb:k ≤ b
  hr:R.length ≤ n
def LawInv (C:Addr) (H0:Hp) (sc ps x dx pr pm q1:Addr) (L h j m:Nat):Nat→L2.St→Hp→Prop:=fun i σ H=>∃ (v6:Option V) (pt pk:Addr) (as:List Addr) (q2 q3:Addr) (bs:List Addr) (R:List (List RwN)) (kvs:List (List Nat × List Nat)) (ks:List (List Nat)) (k b:Nat),At C H0 H x dx pr pm q1 L h j i pt pk as q2 q3 bs R kvs ks k b∧
  σ = [some (.ref sc),some (.ref ps),some (.int j),some (.ref x),some (.ref pm),some (.int m),v6]
theorem merge_rec (q1 q2 q3:Addr):mergeK [] (recD q1 q2 q3) = recD q1 q2 q3:=by
  rw [mergeK_new _ _ (by
    rw [List.nil_append]
    unfold recD
    simp only [List.map_cons,List.map_nil,List.nodup_cons,List.mem_cons,List.not_mem_nil,or_false,not_or,not_false_eq_true,true_and,and_true,List.nodup_nil]
    exact ⟨⟨key_ne (by decide),key_ne (by decide)⟩,key_ne (by decide)⟩)]
  rfl
theorem read_law {K:PySem.W.Frag} {a:Ad} {N:List Str} {vs:List V} {H:Hp} {Q:VK} {E:XK} (hN:N.length = 7) (h:spLaw K vs H Q E):rd_law K a { nx:=fun _ H'=>Q .non H',rt:=Q } (L2.start N vs) H:=by
  obtain ⟨sc,ns,rfl,hS,hl,q⟩:=h
  unfold rd_law L2.start
  rw [hN]
  refine seq_set fun c hc=>?_
  and_intros
  refine ⟨sc,ns,rfl,hS,hl,fun H1 ps L h s1 hps hL hL26 hh hhL=>hc _ _ ?_⟩
  clear hc c
  have hS1:=s1.seq hS
  clear hS s1
  refine seq_set fun c hc=>?_
  and_intros
  refine ixT_go (v:=.int h) (SqT.of hps) (by decide) rfl ⟨sc,ns,_,_,rfl,hS1,hl,by decide,by decide,by omega,fun r h0 h1=>hc _ _ ?_⟩
  clear hc c
  obtain ⟨j0,rfl⟩:=Int.eq_ofNat_of_zero_le h0
  simp only [List.set_cons_zero,List.set_cons_succ,List.replicate_succ,List.replicate_zero,List.map_cons,List.map_nil,List.cons_append,List.nil_append]
  refine seq_any fun c hc=>?_
  suffices main:∀ j:Nat,j < h→c [some (.ref sc),some (.ref ps),some (.int j),none,none,none,none] H1 by
    and_intros
    refine ⟨sc,ns,_,_,rfl,hS1,hl,by decide,by decide,by decide,fun r _ _=>⟨rfl,?_⟩⟩
    by_cases z:r = 0
    · rw [if_pos (congrArg V.int z)]
      exact main 0 (by omega)
    · rw [if_neg (fun y=>z (V.int.inj y))]
      exact main j0 (by omega)
  intro j hj
  refine hc _ _ ?_
  clear hc c h0 h1 j0
  have D:Hands L h j:=⟨hL,hL26,hj,hhL⟩
  refine seq_set fun c hc=>?_
  refine hmake_go D (fun R r=>by and_intros; exact ixT_go (v:=.int L) (SqT.of hps) (by decide) rfl (ixT_go (v:=.int h) (SqT.of hps) (by decide) rfl r)) fun H2 x dx pr pt pk s2 S2 r2 f1 f2 f3 f4 f5=>hc _ _ ?_
  clear hc c
  simp only [List.set_cons_zero,List.set_cons_succ]
  refine seq_set fun c hc=>?_
  simp? [tDisp,tPairs,tDNewK]
  intro pm hpm
  have sm:=Same.up H2 hpm (o:=.dK [])
  have em:(upd H2 pm (.dK [])) pm = some (.dK []):=upd_same
  generalize upd H2 pm _ = H3 at sm em ⊢
  refine ⟨by decide,fun q1 hq1=>?_⟩
  have sm1:=Same.up H3 hq1 (o:=.lst [])
  have e1:(upd H3 q1 (.lst [])) q1 = some (.lst []):=upd_same
  generalize upd H3 q1 _ = H4 at sm1 e1 ⊢
  intro q2 hq2
  have sm2:=Same.up H4 hq2 (o:=.dK [])
  have e2:(upd H4 q2 (.dK [])) q2 = some (.dK []):=upd_same
  generalize upd H4 q2 _ = H5 at sm2 e2 ⊢
  intro q3 hq3
  have sm3:=Same.up H5 hq3 (o:=.dK [])
  have e3:(upd H5 q3 (.dK [])) q3 = some (.dK []):=upd_same
  generalize upd H5 q3 _ = H6 at sm3 e3 ⊢
  have nm2:pm ≠ q2:=fun z=>by subst z; rw [sm1 _ _ em] at hq2; cases hq2
  have nm3:pm ≠ q3:=fun z=>by subst z; rw [sm2 _ _ (sm1 _ _ em)] at hq3; cases hq3
  have n23:q2 ≠ q3:=fun z=>by subst z; rw [e2] at hq3; cases hq3
  have n1m:q1 ≠ pm:=fun z=>by subst z; rw [em] at hq1; cases hq1
  refine ⟨sm3 _ _ (sm2 _ _ (sm1 _ _ em)),recD q1 q2 q3,rfl,(show 3 ≤ 15 by decide),hc _ _ ?_⟩
  clear hc c
  rw [merge_rec]
  have s26:Same H2 H6:=((sm.trans sm1).trans sm2).trans sm3
  have s7:Same H2 (upd H6 pm (.dK (recD q1 q2 q3))):=fun b o e=>by
    rw [upd_ne (fun z=>by subst z; rw [hpm] at e; cases e)]
    exact s26 b o e
  have B7:Both a.k_Hand (upd H6 pm (.dK (recD q1 q2 q3))) x dx pr pt pk [] pm q1 q2 q3 [] L h j [] [] [] 0 0:=by
    have S7:=S2.same s7
    have g2:=sm.free1 (sm1.free1 hq2)
    have g3:=sm.free1 (sm1.free1 (sm2.free1 hq3))
    have g1:=sm.free1 hq1
    have ne:∀ {y f:Addr} {u:HO},H2 y = some u→H2 f = none→y ≠ f:=fun e1 e2 z=>by subst z; rw [e2] at e1; cases e1
    refine ⟨S7,⟨s7 _ _ r2,trivial,fun z=>(nomatch z)⟩,⟨upd_same,⟨?_,trivial,fun z=>(nomatch z)⟩,?_,?_,n23,nm2,nm3⟩,D,⟨List.nodup_nil,fun _ h=>(nomatch h),Nat.le_refl _,fun _ h=>(nomatch h),List.nodup_nil⟩,fun _ h=>(nomatch h),ne S2.tho g2,ne S2.tho g3,ne S2.tak g2,ne S2.tak g3,Ne.symm (ne S2.tho hpm),Ne.symm (ne S2.tak hpm),ne r2 g1,fun z=>(nomatch z),fun z=>(nomatch z)⟩
    · rw [upd_ne n1m]; exact sm3 _ _ (sm2 _ _ e1)
    · rw [upd_ne (Ne.symm nm2)]; exact sm3 _ _ e2
    · rw [upd_ne (Ne.symm nm3)]; exact e3
  have s17:Same H1 (upd H6 pm (.dK (recD q1 q2 q3))):=s2.trans s7
  have A7:At a.k_Hand H1 (upd H6 pm (.dK (recD q1 q2 q3))) x dx pr pm q1 L h j 0 pt pk [] q2 q3 [] [] [] [] 0 0:=by
    refine ⟨s17,B7,fun o ho=>?_,Nat.le_refl _,Nat.le_refl _,Nat.le_refl _,Nat.le_refl _⟩
    simp only [List.mem_cons,List.not_mem_nil,or_false] at ho
    rcases ho with rfl | rfl | rfl | rfl | rfl | rfl | rfl | rfl
    · exact f1
    · exact f3
    · exact f4
    · exact f5
    · exact s2.free1 hpm
    · exact s2.free1 (sm.free1 hq1)
    · exact s2.free1 (sm.free1 (sm1.free1 hq2))
    · exact s2.free1 (sm.free1 (sm1.free1 (sm2.free1 hq3)))
  generalize upd H6 pm _ = H7 at A7 s17 s7
  clear B7
  simp only [List.set_cons_zero,List.set_cons_succ]
  refine seq_any fun c hc=>?_
  and_intros
  refine ⟨x,dx,pr,pt,pk,[],ps,pm,q1,q2,q3,[],L,h,j,[],[],[],0,0,rfl,A7.s _ _ hps,A7.B,by decide,by decide,fun H8 s8=>⟨_,rfl,?_⟩⟩
  and_intros
  refine hc _ _ ?_
  clear hc c
  have A8:At a.k_Hand H1 H8 x dx pr pm q1 L h j 0 pt pk [] q2 q3 [] [] [] [] 0 0:=⟨A7.s.trans s8,A7.B.same s8,A7.f,A7.hk,A7.hb,A7.kb,A7.hr⟩
  refine seq_set fun c hc=>?_
  and_intros
  refine ⟨sc,ns,_,_,rfl,A8.s.seq hS1,hl,by decide,by decide,by decide,fun m0 _ _=>hc _ _ ?_⟩
  clear hc c
  simp only [List.set_cons_zero,List.set_cons_succ]
  refine seq_any fun c hc=>?_
  suffices main:∀ m:Int,0 ≤ m→m < 50→c [some (.ref sc),some (.ref ps),some (.int j),some (.ref x),some (.ref pm),some (.int m),none] H8 by
    and_intros
    refine ⟨sc,ns,_,_,rfl,A8.s.seq hS1,hl,by decide,by decide,by decide,fun r _ _=>⟨rfl,?_⟩⟩
    by_cases z:r = 0
    · rw [if_pos (congrArg V.int z)]
      exact ⟨sc,ns,_,_,rfl,A8.s.seq hS1,hl,by decide,by decide,by decide,fun r7 _ _=>⟨_,rfl,main _ (by omega) (by omega)⟩⟩
    · rw [if_neg (fun y=>z (V.int.inj y))]
      exact main m0 (by omega) (by omega)
  intro m m0 m1
  refine hc _ _ ?_
  clear hc c
  obtain ⟨m,rfl⟩:=Int.eq_ofNat_of_zero_le m0
  refine seq_any fun c hc=>?_
  refine for_r1 (j:=m) (fun Q h=>by and_intros; exact h) (by omega) (by omega) (LawInv a.k_Hand H1 sc ps x dx pr pm q1 L h j m) ⟨none,pt,pk,[],q2,q3,[],[],[],[],0,0,A8,rfl⟩ ?_ ?_
  · rintro i σ H' hi ⟨v6,pt,pk,as,q2,q3,bs,R,kvs,ks,k,b,A,rfl⟩
    simp only [gName,List.set_cons_zero,List.set_cons_succ]
    have k1:=A.hk
    have b1:=A.hb
    have r1:=A.hr
    refine seq_any fun c1 hc1=>?_
    and_intros
    refine ⟨mulB_r (by omega) (by omega),?_⟩
    have ed:(100:Int) + 4 * (i:Int) = ((100 + 4 * i:Nat):Int):=by omega
    rw [ed]
    refine ⟨sc,ns,100 + 4 * i,x,dx,pr,pt,pk,as,ps,pm,q1,q2,q3,bs,L,h,j,R,kvs,ks,k,b,rfl,A.s.seq hS1,hl,by omega,A.s _ _ hps,A.B,by omega,by omega,A.kb,by omega,fun H2 pt' pk' as' q2' q3' bs' R' kvs' ks' k' b' kp fr B2 h1 h2 h3 h4=>⟨_,rfl,?_⟩⟩
    and_intros
    refine hc1 _ _ ?_
    clear hc1 c1
    have A2:At a.k_Hand H1 H2 x dx pr pm q1 L h j (i + 1) pt' pk' as' q2' q3' bs' R' kvs' ks' k' b':=by
      refine ⟨same_keep A.s kp A.f,B2,fun o ho=>?_,by omega,by omega,h3,by omega⟩
      have old:∀ y,y ∈ [pt',pk',q2',q3']→H1 y = none:=fun y hy=>by
        rcases fr y hy with z | z
        · refine A.f y ?_
          simp only [List.mem_cons,List.not_mem_nil,or_false] at z ⊢
          rcases z with rfl | rfl | rfl | rfl <;> simp
        · exact A.s.free1 z
      simp only [List.mem_cons,List.not_mem_nil,or_false] at ho
      rcases ho with rfl | rfl | rfl | rfl | rfl | rfl | rfl | rfl
      · exact A.f _ (by simp)
      · exact A.f _ (by simp)
      · exact old _ (by simp)
      · exact old _ (by simp)
      · exact A.f _ (by simp)
      · exact A.f _ (by simp)
      · exact old _ (by simp)
      · exact old _ (by simp)
    have fin:∀ H3,Same H2 H3→LawInv a.k_Hand H1 sc ps x dx pr pm q1 L h j m (i + 1) [some (.ref sc),some (.ref ps),some (.int j),some (.ref x),some (.ref pm),some (.int m),some (.int i)] H3:=fun H3 s3=>⟨_,pt',pk',as',q2',q3',bs',R',kvs',ks',k',b',⟨A2.s.trans s3,A2.B.same s3,A2.f,A2.hk,A2.hb,A2.kb,A2.hr⟩,rfl⟩
    have k2:=A2.hk
    have r2:=A2.hr
    refine ifs_any fun A' B' hA hB=>?_
    and_intros
    refine ⟨x,dx,pr,pt',pk',as',ps,pm,q1,q2',q3',bs',L,h,j,R',kvs',ks',k',b',rfl,A2.s _ _ hps,B2,by omega,by omega,fun H3 s3=>⟨_,rfl,?_⟩⟩
    and_intros
    exact hB _ _ (fin H3 s3)
  rintro σ H' ⟨v6,pt,pk,as,q2,q3,bs,R,kvs,ks,k,b,A,rfl⟩
  refine hc _ _ ?_
  and_intros
  exact q H'
end K60
def PySem.W.Fast.tw4074820560282495361:Nat:=0
def PySem.W.Fast.tw11143702609207442674:Nat:=0
def PySem.W.Fast.tw15434983469946664008:Nat:=0
def PySem.W.Fast.tw4058204597140972753:Nat:=0
def PySem.W.Fast.tw9012130767248633550:Nat:=0
def PySem.W.Fast.tw3880920748533111116:Nat:=0
def PySem.W.Fast.tw16975945211151655985:Nat:=0
def PySem.W.Fast.tw4907514077713768616:Nat:=0
def PySem.W.Fast.tw16097117547721279976:Nat:=0
def PySem.W.Fast.tw8038348765184684905:Nat:=0
def PySem.W.Fast.tw4097808345688962258:Nat:=0
def PySem.W.Fast.tw9619849240852352481:Nat:=0
def PySem.W.Fast.tw5588910951711434284:Nat:=0
def PySem.W.Fast.tw8600074301699132705:Nat:=0
def PySem.W.Fast.tw4053237067450563320:Nat:=0
def PySem.W.Fast.tw1069341344377896504:Nat:=0
def PySem.W.Fast.tw3309660280126470123:Nat:=0
def PySem.W.Fast.tw15560820143092317409:Nat:=0
def PySem.W.Fast.tw5274000199441632797:Nat:=0
def PySem.W.Fast.tw8767565740586828941:Nat:=0
def PySem.W.Fast.tw1232728046549739713:Nat:=0
def PySem.W.Fast.tw10961842727072942380:Nat:=0
namespace K60
open PySem PySem.Spec PyProof.Rows L2 MM
theorem hcT {K:PySem.W.Frag} {mg:Str→Option Value} {a:Ad} (T:Tx K mg a):HandC K a.k_Hand:=⟨T.K_Hand,T.n_Hand_letters,T.n_Hand_hands,T.n_Hand_own_number,T.n_Hand_renewals,T.n_Hand_thing_of,T.n_Hand_taken⟩
section
variable {P:Program} {w:World} {K:PySem.W.Frag} {mg:Str→Option Value} {base:Heap} {a:Ad}
theorem ok_p25 (T : Tx K mg a) : FnOk P w K mg base (CX1 P w) 1 a.f_p25 a.fd_p25 ["letters", "hands"] (spAskL a.c_NoLetters) :=
  T.F_p25.okX sc_p25 (fun _ _ _ _ h=>by obtain ⟨_,_,e,_⟩:=h; rw [e]; rfl) (fun _ _ _ _ _ _ hr=>pr_p25 T  hr) fun _ _ _ _ h=>read_askL rfl h
theorem ok_p43 (T : Tx K mg a) : FnOk P w K mg base CX0 1 a.f_p43 a.fd_p43 ["letters", "long"] spPower :=
  T.F_p43.okQ sc_p43 (fun _ _ _ _ h=>by obtain ⟨_,_,e,_⟩:=h; rw [e]; rfl) (fun _ _ _ _ _ _ hr=>pr_p43 T  hr) fun _ _ _ _ h=>read_power rfl h
theorem ok_p31 (T : Tx K mg a) : FnOk P w K mg base CX0 1 a.f_p31 a.fd_p31 ["mark", "place"] spFig :=
  T.F_p31.okQ sc_p31 (fun _ _ _ _ h=>by obtain ⟨_,_,e,_⟩:=h; rw [e]; rfl) (fun _ _ _ _ _ _ hr=>pr_p31 T  hr) fun _ _ _ _ h=>read_fig rfl h
theorem ok_p51 (T : Tx K mg a) : FnOk P w K mg base CX0 2 a.f_p51 a.fd_p51 ["letters", "mark", "long"] spWhole :=
  T.F_p51.okQ sc_p51 (fun _ _ _ _ h=>by obtain ⟨_,_,_,e,_⟩:=h; rw [e]; rfl) (fun _ _ _ _ _ _ hr=>pr_p51 T (ok_p31 T) hr) fun _ _ _ _ h=>read_whole rfl h
theorem ok_p38 (T : Tx K mg a) : FnOk P w K mg base CX0 1 a.f_p38 a.fd_p38 ["letters", "number", "long"] spMarkOf :=
  T.F_p38.okQ sc_p38 (fun _ _ _ _ h=>by obtain ⟨_,_,_,e,_⟩:=h; rw [e]; rfl) (fun _ _ _ _ _ _ hr=>pr_p38 T  hr) fun _ _ _ _ h=>read_markOf rfl h
theorem ok_p30 (T : Tx K mg a) : FnOk P w K mg base CX0 1 a.f_p30 a.fd_p30 ["letters", "hands", "hand"] spEnds :=
  T.F_p30.okQ sc_p30 (fun _ _ _ _ h=>by obtain ⟨_,_,_,e,_⟩:=h; rw [e]; rfl) (fun _ _ _ _ _ _ hr=>pr_p30 T  hr) fun _ _ _ _ h=>read_ends rfl h
theorem ok_p27 (T : Tx K mg a) : FnOk P w K mg base (CX1 P w) 1 a.f_p27 a.fd_p27 ["low", "high"] (spAskRoom a.c_NoRoom) :=
  T.F_p27.okX sc_p27 (fun _ _ _ _ h=>by obtain ⟨_,_,e,_⟩:=h; rw [e]; rfl) (fun _ _ _ _ _ _ hr=>pr_p27 T  hr) fun _ _ _ _ h=>read_askRoom rfl h
theorem ok_p32 (T : Tx K mg a) : FnOk P w K mg base CX0 3 a.f_p32 a.fd_p32 ["letters", "high", "long"] spHigh :=
  T.F_p32.okQ sc_p32 (fun _ _ _ _ h=>by obtain ⟨_,_,_,e,_⟩:=h; rw [e]; rfl) (fun _ _ _ _ _ _ hr=>pr_p32 T (ok_p43 T) (ok_p51 T) hr) fun _ _ _ _ h=>read_high rfl h
theorem ok_p41 (T : Tx K mg a) : FnOk P w K mg base CX0 1 a.f_p41 a.fd_p41 ["letters", "ends", "number"] spBelow :=
  T.F_p41.okQ sc_p41 (fun _ _ _ _ h=>by obtain ⟨_,_,_,e,_⟩:=h; rw [e]; rfl) (fun _ _ _ _ _ _ hr=>pr_p41 T  hr) fun _ _ _ _ h=>read_below rfl h
theorem ok_p42 (T : Tx K mg a) : FnOk P w K mg base CX0 2 a.f_p42 a.fd_p42 ["letters", "ends", "low_whole"] spUpLow :=
  T.F_p42.okQ sc_p42 (fun _ _ _ _ h=>by obtain ⟨_,_,_,e,_⟩:=h; rw [e]; rfl) (fun _ _ _ _ _ _ hr=>pr_p42 T (ok_p41 T) hr) fun _ _ _ _ h=>read_upLow rfl h
theorem ok_p40 (T : Tx K mg a) : FnOk P w K mg base CX0 2 a.f_p40 a.fd_p40 ["letters", "ends", "high", "high_whole", "long", "beginnings"] spAhead :=
  T.F_p40.okQ sc_p40 (fun _ _ _ _ h=>by obtain ⟨_,_,_,_,_,_,e,_⟩:=h; rw [e]; rfl) (fun _ _ _ _ _ _ hr=>pr_p40 T (ok_p41 T) hr) fun _ _ _ _ h=>read_ahead rfl h
theorem ok_p29 (T : Tx K mg a) : FnOk P w K mg base CX0 4 a.f_p29 a.fd_p29 ["letters", "ends", "low", "high", "long", "beginnings"] spCounted :=
  T.F_p29.okQ sc_p29 (fun _ _ _ _ h=>by obtain ⟨_,_,_,_,_,_,e,_⟩:=h; rw [e]; rfl) (fun _ _ _ _ _ _ hr=>pr_p29 T (ok_p51 T) (ok_p32 T) (ok_p40 T) (ok_p42 T) hr) fun _ _ _ _ h=>read_counted rfl h
theorem ok_p47 (T : Tx K mg a) : FnOk P w K mg base (CX1 P w) 5 a.f_p47 a.fd_p47 ["letters", "hands", "hand", "low", "high", "long"] (spRoom a.c_NoRoom) :=
  T.F_p47.okX sc_p47 (fun _ _ _ _ h=>by obtain ⟨_,_,_,_,_,_,e,_⟩:=h; rw [e]; rfl) (fun _ _ _ _ _ _ hr=>pr_p47 T (ok_p27 T) (ok_p30 T) (ok_p29 T) hr) fun _ _ _ _ h=>read_room rfl h
theorem ok_p39 (T : Tx K mg a) : FnOk P w K mg base (CX1 P w) 3 a.f_p39 a.fd_p39 ["letters", "hands", "hand", "low", "high", "long", "number"] (spNth a.c_NoRoom) :=
  T.F_p39.okX sc_p39 (fun _ _ _ _ h=>by obtain ⟨_,_,_,_,_,_,_,e,_⟩:=h; rw [e]; rfl) (fun _ _ _ _ _ _ hr=>pr_p39 T (ok_p27 T) (ok_p30 T) (ok_p51 T) (ok_p42 T) (ok_p38 T) hr) fun _ _ _ _ h=>read_nth rfl h
theorem ok_p35 (T : Tx K mg a) : FnOk P w K mg base CX0 4 a.f_p35 a.fd_p35 ["letters", "ends", "low", "high", "many", "beginnings"] spLeastC :=
  T.F_p35.okQ sc_p35 (fun _ _ _ _ h=>by obtain ⟨_,_,_,_,_,_,e,_⟩:=h; rw [e]; rfl) (fun _ _ _ _ _ _ hr=>pr_p35 T (ok_p32 T) (ok_p31 T) (ok_p40 T) (ok_p42 T) hr) fun _ _ _ _ h=>read_leastC rfl h
theorem ok_p36 (T : Tx K mg a) : FnOk P w K mg base (CX1 P w) 5 a.f_p36 a.fd_p36 ["letters", "hands", "hand", "low", "high", "many"] (spLeast a.c_NoRoom) :=
  T.F_p36.okX sc_p36 (fun _ _ _ _ h=>by obtain ⟨_,_,_,_,_,_,e,_⟩:=h; rw [e]; rfl) (fun _ _ _ _ _ _ hr=>pr_p36 T (ok_p27 T) (ok_p30 T) (ok_p35 T) hr) fun _ _ _ _ h=>read_least rfl h
theorem ok_p50 (T : Tx K mg a) : FnOk P w K mg base CX0 1 a.f_p50 a.fd_p50 ["low", "high", "many"] spTold :=
  T.F_p50.okQ sc_p50 (fun _ _ _ _ h=>by obtain ⟨_,_,_,e,_⟩:=h; rw [e]; rfl) (fun _ _ _ _ _ _ hr=>pr_p50 T  hr) fun _ _ _ _ h=>read_told rfl h
theorem ok_p37 (T : Tx K mg a) : FnOk P w K mg base (CX1 P w) 6 a.f_p37 a.fd_p37 ["letters", "hands", "hand", "low", "high"] (spBetween a.c_NoRoom) :=
  T.F_p37.okX sc_p37 (fun _ _ _ _ h=>by obtain ⟨_,_,_,_,_,e,_⟩:=h; rw [e]; rfl) (fun _ _ _ _ _ _ hr=>pr_p37 T (ok_p36 T) (ok_p47 T) (ok_p50 T) (ok_p39 T) hr) fun _ _ _ _ h=>read_between rfl h
theorem ok_p48 (T : Tx K mg a) : FnOk P w K mg base CX0 1 a.f_p48 a.fd_p48 ["many", "whole"] spSpread :=
  T.F_p48.okQ sc_p48 (fun _ _ _ _ h=>by obtain ⟨_,_,e,_⟩:=h; rw [e]; rfl) (fun _ _ _ _ _ _ hr=>pr_p48 T  hr) fun _ _ _ _ h=>read_spread rfl h
theorem ok_p46 (T : Tx K mg a) : FnOk P w K mg base CX0 1 a.f_p46 a.fd_p46 ["letters", "many"] spRenLong :=
  T.F_p46.okQ sc_p46 (fun _ _ _ _ h=>by obtain ⟨_,_,e,_⟩:=h; rw [e]; rfl) (fun _ _ _ _ _ _ hr=>pr_p46 T  hr) fun _ _ _ _ h=>read_renLong rfl h
theorem ok_p45 (T : Tx K mg a) : FnOk P w K mg base CX0 2 a.f_p45 a.fd_p45 ["letters", "many"] spRenewed :=
  T.F_p45.okQ sc_p45 (fun _ _ _ _ h=>by obtain ⟨_,_,e,_⟩:=h; rw [e]; rfl) (fun _ _ _ _ _ _ hr=>pr_p45 T (ok_p46 T) (ok_p43 T) (ok_p48 T) (ok_p38 T) hr) fun _ _ _ _ h=>read_renewed rfl h
theorem ok_p44 (T : Tx K mg a) : FnOk P w K mg base CX0 3 a.f_p44 a.fd_p44 ["letters", "known"] (spRows K) :=
  T.F_p44.okQ sc_p44 (fun _ _ _ _ h=>by obtain ⟨_,_,_,e,_⟩:=h; rw [e]; rfl) (fun _ _ _ _ _ _ hr=>pr_p44 T (ok_p45 T) hr) fun _ _ _ _ h=>read_rows rfl h
theorem ok_p49 (T : Tx K mg a) : FnOk P w K mg base CX0 1 a.f_p49 a.fd_p49 ["letters", "hands", "renewals", "things", "taken"] spStateOf :=
  T.F_p49.okQ sc_p49 (fun _ _ _ _ h=>by obtain ⟨_,_,_,_,_,_,_,_,_,_,e,_⟩:=h; rw [e]; rfl) (fun _ _ _ _ _ _ hr=>pr_p49 T  hr) fun _ _ _ _ h=>read_stateOf rfl h
theorem ok_p33 (T:Tx K mg a):FnOk P w K mg base CX0 1 a.f_p33 a.fd_p33 ["text"] spIsThing:=
  T.F_p33.okQ sc_p33 (fun _ _ _ _ h=>by obtain ⟨_,e,_⟩:=h; rw [e]; rfl) (fun _ _ _ _ _ _ hr=>pr_p33 T  hr) fun _ _ _ _ h=>read_isThing rfl h
theorem ok_p28 (T:Tx K mg a):FnOk P w K mg base (CX1 P w) 2 a.f_p28 a.fd_p28 ["text"] (spAskThing a.c_NoThing):=
  T.F_p28.okX sc_p28 (fun _ _ _ _ h=>by obtain ⟨_,e,_⟩:=h; rw [e]; rfl) (fun _ _ _ _ _ _ hr=>pr_p28 T (ok_p33 T) hr) fun _ _ _ _ h=>read_askThing rfl h
theorem ok_p26 (T : Tx K mg a) : FnOk P w K mg base (CX1 P w) 1 a.f_p26 a.fd_p26 ["place", "many"] (spAskPlace a.c_NoPlace) :=
  T.F_p26.okX sc_p26 (fun _ _ _ _ h=>by obtain ⟨_,_,e,_⟩:=h; rw [e]; rfl) (fun _ _ _ _ _ _ hr=>pr_p26 T  hr) fun _ _ _ _ h=>read_askPlace rfl h
theorem ok_p24 (T : Tx K mg a) : FnOk P w K mg base (CX1 P w) 1 a.f_p24 a.fd_p24 ["number", "hands"] (spAskHand a.c_NoHand) :=
  T.F_p24.okX sc_p24 (fun _ _ _ _ h=>by obtain ⟨_,_,e,_⟩:=h; rw [e]; rfl) (fun _ _ _ _ _ _ hr=>pr_p24 T  hr) fun _ _ _ _ h=>read_askHand rfl h
theorem ok_p0 (T : Tx K mg a) : FnOk P w K mg base (CX1 P w) 2 a.f_p0 a.fd_p0 ["self", "letters", "hands", "number"] (spHInit a.k_Hand a.c_NoLetters a.c_NoHand) :=
  T.F_p0.okX sc_p0 (fun _ _ _ _ h=>by obtain ⟨_,_,_,_,_,e,_⟩:=h; rw [e]; rfl) (fun _ _ _ _ _ _ hr=>pr_p0 T (ok_p25 T) (ok_p24 T) hr) fun _ _ _ _ h=>read_hInit (hcT T) rfl h
theorem ok_p3 (T:Tx K mg a):FnOk P w K mg base CX0 1 a.f_p3 a.fd_p3 ["self"] (spHMarks a.k_Hand):=
  T.F_p3.okQ sc_p3 (fun _ _ _ _ h=>by obtain ⟨_,_,_,_,_,_,_,_,_,_,e,_⟩:=h; rw [e]; rfl) (fun _ _ _ _ _ _ hr=>pr_p3 T  hr) fun _ _ _ _ h=>read_hMarks (hcT T) rfl h
theorem ok_p2 (T : Tx K mg a) : FnOk P w K mg base CX0 1 a.f_p2 a.fd_p2 ["self", "low"] (spHBehind K a.k_Hand) :=
  T.F_p2.okQ sc_p2 (fun _ _ _ _ h=>by obtain ⟨_,_,_,_,_,_,_,_,_,_,_,e,_⟩:=h; rw [e]; rfl) (fun _ _ _ _ _ _ hr=>pr_p2 T  hr) fun _ _ _ _ h=>read_hBehind (hcT T) rfl h
theorem ok_p5 (T : Tx K mg a) : FnOk P w K mg base (CX1 P w) 7 a.f_p5 a.fd_p5 ["self", "place", "thing"] (spHPut a.k_Hand a.c_NoThing a.c_NoPlace) :=
  T.F_p5.okX sc_p5 (fun _ _ _ _ h=>by obtain ⟨_,_,_,_,_,_,_,_,_,_,_,_,_,_,e,_⟩:=h; rw [e]; rfl) (fun _ _ _ _ _ _ hr=>pr_p5 T (ok_p28 T) (ok_p3 T) (ok_p26 T) (ok_p2 T) (ok_p37 T) hr) fun _ _ _ _ h=>read_hPut (hcT T) rfl h
theorem ok_p8 (T : Tx K mg a) : FnOk P w K mg base (CX1 P w) 2 a.f_p8 a.fd_p8 ["self", "place"] (spHTake a.k_Hand a.c_NoPlace) :=
  T.F_p8.okX sc_p8 (fun _ _ _ _ h=>by obtain ⟨_,_,_,_,_,_,_,_,_,_,_,e,_⟩:=h; rw [e]; rfl) (fun _ _ _ _ _ _ hr=>pr_p8 T (ok_p3 T) (ok_p26 T) hr) fun _ _ _ _ h=>read_hTake (hcT T) rfl h
theorem ok_p6 (T:Tx K mg a):FnOk P w K mg base (CX1 P w) 4 a.f_p6 a.fd_p6 ["self"] (spHRenew a.k_Hand a.c_NoHand):=
  T.F_p6.okX sc_p6 (fun _ _ _ _ h=>by obtain ⟨_,_,_,_,_,_,_,_,_,_,_,_,_,_,e,_⟩:=h; rw [e]; rfl) (fun _ _ _ _ _ _ hr=>pr_p6 T (ok_p44 T) hr) fun _ _ _ _ h=>read_hRenew (hcT T) rfl h
theorem ok_p9 (T:Tx K mg a):FnOk P w K mg base CX0 2 a.f_p9 a.fd_p9 ["self"] (spHThings a.k_Hand):=
  T.F_p9.okQ sc_p9 (fun _ _ _ _ h=>by obtain ⟨_,_,_,_,_,_,_,_,_,_,e,_⟩:=h; rw [e]; rfl) (fun _ _ _ _ _ _ hr=>pr_p9 T (ok_p3 T) hr) fun _ _ _ _ h=>read_hThings (hcT T) rfl h
theorem ok_p1 (T:Tx K mg a):FnOk P w K mg base CX0 1 a.f_p1 a.fd_p1 ["self"] (spHAge a.k_Hand):=
  T.F_p1.okQ sc_p1 (fun _ _ _ _ h=>by obtain ⟨_,_,_,_,_,_,_,_,_,_,_,e,_⟩:=h; rw [e]; rfl) (fun _ _ _ _ _ _ hr=>pr_p1 T  hr) fun _ _ _ _ h=>read_hAge (hcT T) rfl h
theorem ok_p4 (T:Tx K mg a):FnOk P w K mg base CX0 1 a.f_p4 a.fd_p4 ["self"] (spHNumber a.k_Hand):=
  T.F_p4.okQ sc_p4 (fun _ _ _ _ h=>by obtain ⟨_,_,_,_,_,_,_,_,_,_,e,_⟩:=h; rw [e]; rfl) (fun _ _ _ _ _ _ hr=>pr_p4 T  hr) fun _ _ _ _ h=>read_hNumber (hcT T) rfl h
theorem ok_p7 (T:Tx K mg a):FnOk P w K mg base CX0 2 a.f_p7 a.fd_p7 ["self"] (spHState a.k_Hand):=
  T.F_p7.okQ sc_p7 (fun _ _ _ _ h=>by obtain ⟨_,_,_,_,_,_,_,_,_,_,_,_,e,_⟩:=h; rw [e]; rfl) (fun _ _ _ _ _ _ hr=>pr_p7 T (ok_p49 T) hr) fun _ _ _ _ h=>read_hState (hcT T) rfl h
theorem ok_draw (T : Tx K mg a) : FnOk P w K mg base CX0 1 a.f_draw a.fd_draw ["_law_script", "_law_k", "_law_many"] (spDraw K) :=
  T.F_draw.okQ sc_draw (fun _ _ _ _ h=>by obtain ⟨_,_,_,_,e,_⟩:=h; rw [e]; rfl) (fun _ _ _ _ _ _ hr=>pr_draw T  hr) fun _ _ _ _ h=>read_draw rfl h
theorem ok_size (T:Tx K mg a):FnOk P w K mg base CX0 2 a.f_size a.fd_size ["_law_script"] (spSize K):=
  T.F_size.okQ sc_size (fun _ _ _ _ h=>by obtain ⟨_,_,e,_⟩:=h; rw [e]; rfl) (fun _ _ _ _ _ _ hr=>pr_size T (ok_draw T) hr) fun _ _ _ _ h=>read_size rfl h
theorem ok_whole (T : Tx K mg a) : FnOk P w K mg base CX0 1 a.f_whole a.fd_whole ["_law_letters", "_law_mark_here", "_law_long"] spLWhole :=
  T.F_whole.okQ sc_whole (fun _ _ _ _ h=>by obtain ⟨_,_,_,e,_⟩:=h; rw [e]; rfl) (fun _ _ _ _ _ _ hr=>pr_whole T  hr) fun _ _ _ _ h=>read_lwhole2 rfl h
theorem ok_mark (T : Tx K mg a) : FnOk P w K mg base CX0 1 a.f_mark a.fd_mark ["_law_letters", "_law_number", "_law_long"] spText :=
  T.F_mark.okQ sc_mark (fun _ _ _ _ h=>by obtain ⟨_,_,_,e,_⟩:=h; rw [e]; rfl) (fun _ _ _ _ _ _ hr=>pr_mark T  hr) fun _ _ _ _ h=>read_text rfl h
theorem ok_some (T : Tx K mg a) : FnOk P w K mg base CX0 2 a.f_some a.fd_some ["_law_letters", "_law_hands", "_law_hand", "_law_low", "_law_high", "_law_long"] spLSome :=
  T.F_some.okQ sc_some (fun _ _ _ _ h=>by obtain ⟨_,_,_,_,_,_,e,_⟩:=h; rw [e]; rfl) (fun _ _ _ _ _ _ hr=>pr_some T (ok_whole T) hr) fun _ _ _ _ h=>read_lsome rfl h
theorem ok_between (T : Tx K mg a) : FnOk P w K mg base CX0 3 a.f_between a.fd_between ["_law_letters", "_law_hands", "_law_hand", "_law_low", "_law_high"] spHBetween :=
  T.F_between.okQ sc_between (fun _ _ _ _ h=>by obtain ⟨_,_,_,_,_,e,_⟩:=h; rw [e]; rfl) (fun _ _ _ _ _ _ hr=>pr_between T (ok_some T) (ok_mark T) hr) fun _ _ _ _ h=>read_hbetween rfl h
theorem ok_rows (T : Tx K mg a) : FnOk P w K mg base CX0 2 a.f_rows a.fd_rows ["_law_letters", "_law_model"] (spLRows K) :=
  T.F_rows.okQ sc_rows (fun _ _ _ _ h=>by obtain ⟨_,_,_,_,_,_,_,_,_,_,_,e,_⟩:=h; rw [e]; rfl) (fun _ _ _ _ _ _ hr=>pr_rows T (ok_mark T) hr) fun _ _ _ _ h=>read_lrows rfl h
theorem ok_shown (T:Tx K mg a):FnOk P w K mg base CX0 1 a.f_shown a.fd_shown ["_law_model"] spLShown:=
  T.F_shown.okQ sc_shown (fun _ _ _ _ h=>by obtain ⟨_,_,_,_,_,_,_,_,e,_⟩:=h; rw [e]; rfl) (fun _ _ _ _ _ _ hr=>pr_shown T  hr) fun _ _ _ _ h=>read_lshown rfl h
theorem ok_state (T : Tx K mg a) : FnOk P w K mg base CX0 1 a.f_state a.fd_state ["_law_size_here", "_law_model"] (spLState K) :=
  T.F_state.okQ sc_state (fun _ _ _ _ h=>by obtain ⟨_,_,_,_,_,_,_,_,_,_,_,e,_⟩:=h; rw [e]; rfl) (fun _ _ _ _ _ _ hr=>pr_state T  hr) fun _ _ _ _ h=>read_lstate rfl h
theorem ok_put (T : Tx K mg a) : FnOk P w K mg base CX0 4 a.f_put a.fd_put ["_law_size_here", "_law_hand", "_law_model", "_law_place", "_law_thing_here"] (spLPut K) :=
  T.F_put.okQ sc_put (fun _ _ _ _ h=>by obtain ⟨_,_,_,_,_,_,_,_,_,_,_,_,_,_,_,_,_,_,_,_,_,e,_⟩:=h; rw [e]; rfl) (fun _ _ _ _ _ _ hr=>pr_put T (ok_shown T) (ok_between T) hr) fun _ _ _ _ h=>read_lput rfl h
theorem ok_thing (T : Tx K mg a) : FnOk P w K mg base CX0 2 a.f_thing a.fd_thing ["_law_script", "_law_k"] (spHThing K) :=
  T.F_thing.okQ sc_thing (fun _ _ _ _ h=>by obtain ⟨_,_,_,e,_⟩:=h; rw [e]; rfl) (fun _ _ _ _ _ _ hr=>pr_thing T (ok_draw T) hr) fun _ _ _ _ h=>read_hthing rfl h
theorem ok_is_told (T : Tx K mg a) : FnOk P w K mg base CX0 3 a.f_is_told a.fd_is_told ["_law_hand", "_law_size_here", "_law_number", "_law_model"] (spIsTold K a.k_Hand) :=
  T.F_is_told.okQ sc_is_told (fun _ _ _ _ h=>by obtain ⟨_,_,_,_,_,_,_,_,_,_,_,_,_,_,_,_,_,_,_,_,e,_⟩:=h; rw [e]; rfl) (fun _ _ _ _ _ _ hr=>pr_is_told T (ok_shown T) (ok_p3 T) (ok_p9 T) (ok_p7 T) (ok_p1 T) (ok_p4 T) (ok_state T) hr) fun _ _ _ _ h=>read_isTold T rfl h
theorem ok_deed (T : Tx K mg a) : FnOk P w K mg base CX0 8 a.f_deed a.fd_deed ["_law_script", "_law_k", "_law_size_here", "_law_hand", "_law_number", "_law_model"] (spDeed K a.k_Hand) :=
  T.F_deed.okQ sc_deed (fun _ _ _ _ h=>by obtain ⟨_,_,_,_,_,_,_,_,_,_,_,_,_,_,_,_,_,_,_,_,_,_,_,e,_⟩:=h; rw [e]; rfl) (fun _ _ _ _ _ _ hr=>pr_deed T (ok_shown T) (ok_draw T) (ok_p8 T) (ok_rows T) (ok_p6 T) (ok_thing T) (ok_p5 T) (ok_put T) hr) fun _ _ _ _ h=>read_deed T rfl h
theorem ok_law (T:Tx K mg a):FnOk P w K mg base CX0 9 a.f_law a.fd_law ["_law_script"] (spLaw K):=
  T.F_law.okQ sc_law (fun _ _ _ _ h=>by obtain ⟨_,_,e,_⟩:=h; rw [e]; rfl) (fun _ _ _ _ _ _ hr=>pr_law T (ok_size T) (ok_draw T) (ok_p0 T) (ok_is_told T) (ok_deed T) hr) fun _ _ _ _ h=>read_law rfl h
end
theorem tx_mk {K:PySem.W.Frag} {h:Heap} {mg:Str→Option Value} (X:K.In h) (G:h.Ns mainGlobals mg)
    {k_Hand:Addr}
    {f_p25 od_p25 an_p25 sl_p25 oc_p25 kV_p25 dc_p25 pm_p25 cd_p25 ct_p25}
    (a_p25 : PySem.W.nsIn K mainGlobals "ask_letters" = some (some (.ref f_p25))) (l_p25 : K.lookup f_p25 = some ⟨oc_p25, od_p25, .func (PySem.W.fnOf "ask_letters" "ask_letters" (defArgs s_p25) (defBody s_p25) (defScope s_p25) .none kV_p25 dc_p25 pm_p25 an_p25 cd_p25 ct_p25), sl_p25⟩) (c_p25 : PySem.W.codeIn K cd_p25 "ask_letters" = true) (k_p25 : PySem.W.keepIn K (.ref f_p25) = true)
    {f_p43 od_p43 an_p43 sl_p43 oc_p43 kV_p43 dc_p43 pm_p43 cd_p43 ct_p43}
    (a_p43 : PySem.W.nsIn K mainGlobals "power" = some (some (.ref f_p43))) (l_p43 : K.lookup f_p43 = some ⟨oc_p43, od_p43, .func (PySem.W.fnOf "power" "power" (defArgs s_p43) (defBody s_p43) (defScope s_p43) .none kV_p43 dc_p43 pm_p43 an_p43 cd_p43 ct_p43), sl_p43⟩) (c_p43 : PySem.W.codeIn K cd_p43 "power" = true) (k_p43 : PySem.W.keepIn K (.ref f_p43) = true)
    {f_p31 od_p31 an_p31 sl_p31 oc_p31 kV_p31 dc_p31 pm_p31 cd_p31 ct_p31}
    (a_p31 : PySem.W.nsIn K mainGlobals "figure_at" = some (some (.ref f_p31))) (l_p31 : K.lookup f_p31 = some ⟨oc_p31, od_p31, .func (PySem.W.fnOf "figure_at" "figure_at" (defArgs s_p31) (defBody s_p31) (defScope s_p31) .none kV_p31 dc_p31 pm_p31 an_p31 cd_p31 ct_p31), sl_p31⟩) (c_p31 : PySem.W.codeIn K cd_p31 "figure_at" = true) (k_p31 : PySem.W.keepIn K (.ref f_p31) = true)
    {f_p51 od_p51 an_p51 sl_p51 oc_p51 kV_p51 dc_p51 pm_p51 cd_p51 ct_p51}
    (a_p51 : PySem.W.nsIn K mainGlobals "whole_of" = some (some (.ref f_p51))) (l_p51 : K.lookup f_p51 = some ⟨oc_p51, od_p51, .func (PySem.W.fnOf "whole_of" "whole_of" (defArgs s_p51) (defBody s_p51) (defScope s_p51) .none kV_p51 dc_p51 pm_p51 an_p51 cd_p51 ct_p51), sl_p51⟩) (c_p51 : PySem.W.codeIn K cd_p51 "whole_of" = true) (k_p51 : PySem.W.keepIn K (.ref f_p51) = true)
    {f_p38 od_p38 an_p38 sl_p38 oc_p38 kV_p38 dc_p38 pm_p38 cd_p38 ct_p38}
    (a_p38 : PySem.W.nsIn K mainGlobals "mark_of" = some (some (.ref f_p38))) (l_p38 : K.lookup f_p38 = some ⟨oc_p38, od_p38, .func (PySem.W.fnOf "mark_of" "mark_of" (defArgs s_p38) (defBody s_p38) (defScope s_p38) .none kV_p38 dc_p38 pm_p38 an_p38 cd_p38 ct_p38), sl_p38⟩) (c_p38 : PySem.W.codeIn K cd_p38 "mark_of" = true) (k_p38 : PySem.W.keepIn K (.ref f_p38) = true)
    {f_p30 od_p30 an_p30 sl_p30 oc_p30 kV_p30 dc_p30 pm_p30 cd_p30 ct_p30}
    (a_p30 : PySem.W.nsIn K mainGlobals "ends_of" = some (some (.ref f_p30))) (l_p30 : K.lookup f_p30 = some ⟨oc_p30, od_p30, .func (PySem.W.fnOf "ends_of" "ends_of" (defArgs s_p30) (defBody s_p30) (defScope s_p30) .none kV_p30 dc_p30 pm_p30 an_p30 cd_p30 ct_p30), sl_p30⟩) (c_p30 : PySem.W.codeIn K cd_p30 "ends_of" = true) (k_p30 : PySem.W.keepIn K (.ref f_p30) = true)
    {f_p27 od_p27 an_p27 sl_p27 oc_p27 kV_p27 dc_p27 pm_p27 cd_p27 ct_p27}
    (a_p27 : PySem.W.nsIn K mainGlobals "ask_room" = some (some (.ref f_p27))) (l_p27 : K.lookup f_p27 = some ⟨oc_p27, od_p27, .func (PySem.W.fnOf "ask_room" "ask_room" (defArgs s_p27) (defBody s_p27) (defScope s_p27) .none kV_p27 dc_p27 pm_p27 an_p27 cd_p27 ct_p27), sl_p27⟩) (c_p27 : PySem.W.codeIn K cd_p27 "ask_room" = true) (k_p27 : PySem.W.keepIn K (.ref f_p27) = true)
    {f_p32 od_p32 an_p32 sl_p32 oc_p32 kV_p32 dc_p32 pm_p32 cd_p32 ct_p32}
    (a_p32 : PySem.W.nsIn K mainGlobals "high_whole_of" = some (some (.ref f_p32))) (l_p32 : K.lookup f_p32 = some ⟨oc_p32, od_p32, .func (PySem.W.fnOf "high_whole_of" "high_whole_of" (defArgs s_p32) (defBody s_p32) (defScope s_p32) .none kV_p32 dc_p32 pm_p32 an_p32 cd_p32 ct_p32), sl_p32⟩) (c_p32 : PySem.W.codeIn K cd_p32 "high_whole_of" = true) (k_p32 : PySem.W.keepIn K (.ref f_p32) = true)
    {f_p41 od_p41 an_p41 sl_p41 oc_p41 kV_p41 dc_p41 pm_p41 cd_p41 ct_p41}
    (a_p41 : PySem.W.nsIn K mainGlobals "owned_below" = some (some (.ref f_p41))) (l_p41 : K.lookup f_p41 = some ⟨oc_p41, od_p41, .func (PySem.W.fnOf "owned_below" "owned_below" (defArgs s_p41) (defBody s_p41) (defScope s_p41) .none kV_p41 dc_p41 pm_p41 an_p41 cd_p41 ct_p41), sl_p41⟩) (c_p41 : PySem.W.codeIn K cd_p41 "owned_below" = true) (k_p41 : PySem.W.keepIn K (.ref f_p41) = true)
    {f_p42 od_p42 an_p42 sl_p42 oc_p42 kV_p42 dc_p42 pm_p42 cd_p42 ct_p42}
    (a_p42 : PySem.W.nsIn K mainGlobals "owned_up_to_low" = some (some (.ref f_p42))) (l_p42 : K.lookup f_p42 = some ⟨oc_p42, od_p42, .func (PySem.W.fnOf "owned_up_to_low" "owned_up_to_low" (defArgs s_p42) (defBody s_p42) (defScope s_p42) .none kV_p42 dc_p42 pm_p42 an_p42 cd_p42 ct_p42), sl_p42⟩) (c_p42 : PySem.W.codeIn K cd_p42 "owned_up_to_low" = true) (k_p42 : PySem.W.keepIn K (.ref f_p42) = true)
    {f_p40 od_p40 an_p40 sl_p40 oc_p40 kV_p40 dc_p40 pm_p40 cd_p40 ct_p40}
    (a_p40 : PySem.W.nsIn K mainGlobals "owned_ahead_of_high" = some (some (.ref f_p40))) (l_p40 : K.lookup f_p40 = some ⟨oc_p40, od_p40, .func (PySem.W.fnOf "owned_ahead_of_high" "owned_ahead_of_high" (defArgs s_p40) (defBody s_p40) (defScope s_p40) .none kV_p40 dc_p40 pm_p40 an_p40 cd_p40 ct_p40), sl_p40⟩) (c_p40 : PySem.W.codeIn K cd_p40 "owned_ahead_of_high" = true) (k_p40 : PySem.W.keepIn K (.ref f_p40) = true)
    {f_p29 od_p29 an_p29 sl_p29 oc_p29 kV_p29 dc_p29 pm_p29 cd_p29 ct_p29}
    (a_p29 : PySem.W.nsIn K mainGlobals "counted_at" = some (some (.ref f_p29))) (l_p29 : K.lookup f_p29 = some ⟨oc_p29, od_p29, .func (PySem.W.fnOf "counted_at" "counted_at" (defArgs s_p29) (defBody s_p29) (defScope s_p29) .none kV_p29 dc_p29 pm_p29 an_p29 cd_p29 ct_p29), sl_p29⟩) (c_p29 : PySem.W.codeIn K cd_p29 "counted_at" = true) (k_p29 : PySem.W.keepIn K (.ref f_p29) = true)
    {f_p47 od_p47 an_p47 sl_p47 oc_p47 kV_p47 dc_p47 pm_p47 cd_p47 ct_p47}
    (a_p47 : PySem.W.nsIn K mainGlobals "room_at" = some (some (.ref f_p47))) (l_p47 : K.lookup f_p47 = some ⟨oc_p47, od_p47, .func (PySem.W.fnOf "room_at" "room_at" (defArgs s_p47) (defBody s_p47) (defScope s_p47) .none kV_p47 dc_p47 pm_p47 an_p47 cd_p47 ct_p47), sl_p47⟩) (c_p47 : PySem.W.codeIn K cd_p47 "room_at" = true) (k_p47 : PySem.W.keepIn K (.ref f_p47) = true)
    {f_p39 od_p39 an_p39 sl_p39 oc_p39 kV_p39 dc_p39 pm_p39 cd_p39 ct_p39}
    (a_p39 : PySem.W.nsIn K mainGlobals "nth_mark" = some (some (.ref f_p39))) (l_p39 : K.lookup f_p39 = some ⟨oc_p39, od_p39, .func (PySem.W.fnOf "nth_mark" "nth_mark" (defArgs s_p39) (defBody s_p39) (defScope s_p39) .none kV_p39 dc_p39 pm_p39 an_p39 cd_p39 ct_p39), sl_p39⟩) (c_p39 : PySem.W.codeIn K cd_p39 "nth_mark" = true) (k_p39 : PySem.W.keepIn K (.ref f_p39) = true)
    {f_p35 od_p35 an_p35 sl_p35 oc_p35 kV_p35 dc_p35 pm_p35 cd_p35 ct_p35}
    (a_p35 : PySem.W.nsIn K mainGlobals "least_counted" = some (some (.ref f_p35))) (l_p35 : K.lookup f_p35 = some ⟨oc_p35, od_p35, .func (PySem.W.fnOf "least_counted" "least_counted" (defArgs s_p35) (defBody s_p35) (defScope s_p35) .none kV_p35 dc_p35 pm_p35 an_p35 cd_p35 ct_p35), sl_p35⟩) (c_p35 : PySem.W.codeIn K cd_p35 "least_counted" = true) (k_p35 : PySem.W.keepIn K (.ref f_p35) = true)
    {f_p36 od_p36 an_p36 sl_p36 oc_p36 kV_p36 dc_p36 pm_p36 cd_p36 ct_p36}
    (a_p36 : PySem.W.nsIn K mainGlobals "least_long" = some (some (.ref f_p36))) (l_p36 : K.lookup f_p36 = some ⟨oc_p36, od_p36, .func (PySem.W.fnOf "least_long" "least_long" (defArgs s_p36) (defBody s_p36) (defScope s_p36) .none kV_p36 dc_p36 pm_p36 an_p36 cd_p36 ct_p36), sl_p36⟩) (c_p36 : PySem.W.codeIn K cd_p36 "least_long" = true) (k_p36 : PySem.W.keepIn K (.ref f_p36) = true)
    {f_p50 od_p50 an_p50 sl_p50 oc_p50 kV_p50 dc_p50 pm_p50 cd_p50 ct_p50}
    (a_p50 : PySem.W.nsIn K mainGlobals "told_number" = some (some (.ref f_p50))) (l_p50 : K.lookup f_p50 = some ⟨oc_p50, od_p50, .func (PySem.W.fnOf "told_number" "told_number" (defArgs s_p50) (defBody s_p50) (defScope s_p50) .none kV_p50 dc_p50 pm_p50 an_p50 cd_p50 ct_p50), sl_p50⟩) (c_p50 : PySem.W.codeIn K cd_p50 "told_number" = true) (k_p50 : PySem.W.keepIn K (.ref f_p50) = true)
    {f_p37 od_p37 an_p37 sl_p37 oc_p37 kV_p37 dc_p37 pm_p37 cd_p37 ct_p37}
    (a_p37 : PySem.W.nsIn K mainGlobals "mark_between" = some (some (.ref f_p37))) (l_p37 : K.lookup f_p37 = some ⟨oc_p37, od_p37, .func (PySem.W.fnOf "mark_between" "mark_between" (defArgs s_p37) (defBody s_p37) (defScope s_p37) .none kV_p37 dc_p37 pm_p37 an_p37 cd_p37 ct_p37), sl_p37⟩) (c_p37 : PySem.W.codeIn K cd_p37 "mark_between" = true) (k_p37 : PySem.W.keepIn K (.ref f_p37) = true)
    {f_p48 od_p48 an_p48 sl_p48 oc_p48 kV_p48 dc_p48 pm_p48 cd_p48 ct_p48}
    (a_p48 : PySem.W.nsIn K mainGlobals "spread" = some (some (.ref f_p48))) (l_p48 : K.lookup f_p48 = some ⟨oc_p48, od_p48, .func (PySem.W.fnOf "spread" "spread" (defArgs s_p48) (defBody s_p48) (defScope s_p48) .none kV_p48 dc_p48 pm_p48 an_p48 cd_p48 ct_p48), sl_p48⟩) (c_p48 : PySem.W.codeIn K cd_p48 "spread" = true) (k_p48 : PySem.W.keepIn K (.ref f_p48) = true)
    {f_p46 od_p46 an_p46 sl_p46 oc_p46 kV_p46 dc_p46 pm_p46 cd_p46 ct_p46}
    (a_p46 : PySem.W.nsIn K mainGlobals "renewed_long" = some (some (.ref f_p46))) (l_p46 : K.lookup f_p46 = some ⟨oc_p46, od_p46, .func (PySem.W.fnOf "renewed_long" "renewed_long" (defArgs s_p46) (defBody s_p46) (defScope s_p46) .none kV_p46 dc_p46 pm_p46 an_p46 cd_p46 ct_p46), sl_p46⟩) (c_p46 : PySem.W.codeIn K cd_p46 "renewed_long" = true) (k_p46 : PySem.W.keepIn K (.ref f_p46) = true)
    {f_p45 od_p45 an_p45 sl_p45 oc_p45 kV_p45 dc_p45 pm_p45 cd_p45 ct_p45}
    (a_p45 : PySem.W.nsIn K mainGlobals "renewed" = some (some (.ref f_p45))) (l_p45 : K.lookup f_p45 = some ⟨oc_p45, od_p45, .func (PySem.W.fnOf "renewed" "renewed" (defArgs s_p45) (defBody s_p45) (defScope s_p45) .none kV_p45 dc_p45 pm_p45 an_p45 cd_p45 ct_p45), sl_p45⟩) (c_p45 : PySem.W.codeIn K cd_p45 "renewed" = true) (k_p45 : PySem.W.keepIn K (.ref f_p45) = true)
    {f_p44 od_p44 an_p44 sl_p44 oc_p44 kV_p44 dc_p44 pm_p44 cd_p44 ct_p44}
    (a_p44 : PySem.W.nsIn K mainGlobals "renewal_rows" = some (some (.ref f_p44))) (l_p44 : K.lookup f_p44 = some ⟨oc_p44, od_p44, .func (PySem.W.fnOf "renewal_rows" "renewal_rows" (defArgs s_p44) (defBody s_p44) (defScope s_p44) .none kV_p44 dc_p44 pm_p44 an_p44 cd_p44 ct_p44), sl_p44⟩) (c_p44 : PySem.W.codeIn K cd_p44 "renewal_rows" = true) (k_p44 : PySem.W.keepIn K (.ref f_p44) = true)
    {f_p49 od_p49 an_p49 sl_p49 oc_p49 kV_p49 dc_p49 pm_p49 cd_p49 ct_p49}
    (a_p49 : PySem.W.nsIn K mainGlobals "state_of" = some (some (.ref f_p49))) (l_p49 : K.lookup f_p49 = some ⟨oc_p49, od_p49, .func (PySem.W.fnOf "state_of" "state_of" (defArgs s_p49) (defBody s_p49) (defScope s_p49) .none kV_p49 dc_p49 pm_p49 an_p49 cd_p49 ct_p49), sl_p49⟩) (c_p49 : PySem.W.codeIn K cd_p49 "state_of" = true) (k_p49 : PySem.W.keepIn K (.ref f_p49) = true)
    {f_p33 od_p33 an_p33 sl_p33 oc_p33 kV_p33 dc_p33 pm_p33 cd_p33 ct_p33}
    (a_p33 : PySem.W.nsIn K mainGlobals "is_thing" = some (some (.ref f_p33))) (l_p33 : K.lookup f_p33 = some ⟨oc_p33, od_p33, .func (PySem.W.fnOf "is_thing" "is_thing" (defArgs s_p33) (defBody s_p33) (defScope s_p33) .none kV_p33 dc_p33 pm_p33 an_p33 cd_p33 ct_p33), sl_p33⟩) (c_p33 : PySem.W.codeIn K cd_p33 "is_thing" = true) (k_p33 : PySem.W.keepIn K (.ref f_p33) = true)
    {f_p28 od_p28 an_p28 sl_p28 oc_p28 kV_p28 dc_p28 pm_p28 cd_p28 ct_p28}
    (a_p28 : PySem.W.nsIn K mainGlobals "ask_thing" = some (some (.ref f_p28))) (l_p28 : K.lookup f_p28 = some ⟨oc_p28, od_p28, .func (PySem.W.fnOf "ask_thing" "ask_thing" (defArgs s_p28) (defBody s_p28) (defScope s_p28) .none kV_p28 dc_p28 pm_p28 an_p28 cd_p28 ct_p28), sl_p28⟩) (c_p28 : PySem.W.codeIn K cd_p28 "ask_thing" = true) (k_p28 : PySem.W.keepIn K (.ref f_p28) = true)
    {f_p26 od_p26 an_p26 sl_p26 oc_p26 kV_p26 dc_p26 pm_p26 cd_p26 ct_p26}
    (a_p26 : PySem.W.nsIn K mainGlobals "ask_place" = some (some (.ref f_p26))) (l_p26 : K.lookup f_p26 = some ⟨oc_p26, od_p26, .func (PySem.W.fnOf "ask_place" "ask_place" (defArgs s_p26) (defBody s_p26) (defScope s_p26) .none kV_p26 dc_p26 pm_p26 an_p26 cd_p26 ct_p26), sl_p26⟩) (c_p26 : PySem.W.codeIn K cd_p26 "ask_place" = true) (k_p26 : PySem.W.keepIn K (.ref f_p26) = true)
    {f_p24 od_p24 an_p24 sl_p24 oc_p24 kV_p24 dc_p24 pm_p24 cd_p24 ct_p24}
    (a_p24 : PySem.W.nsIn K mainGlobals "ask_hand" = some (some (.ref f_p24))) (l_p24 : K.lookup f_p24 = some ⟨oc_p24, od_p24, .func (PySem.W.fnOf "ask_hand" "ask_hand" (defArgs s_p24) (defBody s_p24) (defScope s_p24) .none kV_p24 dc_p24 pm_p24 an_p24 cd_p24 ct_p24), sl_p24⟩) (c_p24 : PySem.W.codeIn K cd_p24 "ask_hand" = true) (k_p24 : PySem.W.keepIn K (.ref f_p24) = true)
    {f_p0 od_p0 an_p0 sl_p0 oc_p0 kV_p0 dc_p0 pm_p0 cd_p0 ct_p0}
    (a_p0 : PySem.W.findIn K (.ref k_Hand) "__init__" = some (some (.ref f_p0))) (i_p0 : PySem.W.isFn K (.ref f_p0) = true) (l_p0 : K.lookup f_p0 = some ⟨oc_p0, od_p0, .func (PySem.W.fnOf "__init__" "Hand.__init__" (defArgs s_p0) (defBody s_p0) (defScope s_p0) .none kV_p0 dc_p0 pm_p0 an_p0 cd_p0 ct_p0), sl_p0⟩) (c_p0 : PySem.W.codeIn K cd_p0 "Hand.__init__" = true) (k_p0 : PySem.W.keepIn K (.ref f_p0) = true)
    {f_p3 od_p3 an_p3 sl_p3 oc_p3 kV_p3 dc_p3 pm_p3 cd_p3 ct_p3}
    (a_p3 : PySem.W.findIn K (.ref k_Hand) "marks" = some (some (.ref f_p3))) (i_p3 : PySem.W.isFn K (.ref f_p3) = true) (l_p3 : K.lookup f_p3 = some ⟨oc_p3, od_p3, .func (PySem.W.fnOf "marks" "Hand.marks" (defArgs s_p3) (defBody s_p3) (defScope s_p3) .none kV_p3 dc_p3 pm_p3 an_p3 cd_p3 ct_p3), sl_p3⟩) (c_p3 : PySem.W.codeIn K cd_p3 "Hand.marks" = true) (k_p3 : PySem.W.keepIn K (.ref f_p3) = true)
    {f_p2 od_p2 an_p2 sl_p2 oc_p2 kV_p2 dc_p2 pm_p2 cd_p2 ct_p2}
    (a_p2 : PySem.W.findIn K (.ref k_Hand) "first_behind" = some (some (.ref f_p2))) (i_p2 : PySem.W.isFn K (.ref f_p2) = true) (l_p2 : K.lookup f_p2 = some ⟨oc_p2, od_p2, .func (PySem.W.fnOf "first_behind" "Hand.first_behind" (defArgs s_p2) (defBody s_p2) (defScope s_p2) .none kV_p2 dc_p2 pm_p2 an_p2 cd_p2 ct_p2), sl_p2⟩) (c_p2 : PySem.W.codeIn K cd_p2 "Hand.first_behind" = true) (k_p2 : PySem.W.keepIn K (.ref f_p2) = true)
    {f_p5 od_p5 an_p5 sl_p5 oc_p5 kV_p5 dc_p5 pm_p5 cd_p5 ct_p5}
    (a_p5 : PySem.W.findIn K (.ref k_Hand) "put" = some (some (.ref f_p5))) (i_p5 : PySem.W.isFn K (.ref f_p5) = true) (l_p5 : K.lookup f_p5 = some ⟨oc_p5, od_p5, .func (PySem.W.fnOf "put" "Hand.put" (defArgs s_p5) (defBody s_p5) (defScope s_p5) .none kV_p5 dc_p5 pm_p5 an_p5 cd_p5 ct_p5), sl_p5⟩) (c_p5 : PySem.W.codeIn K cd_p5 "Hand.put" = true) (k_p5 : PySem.W.keepIn K (.ref f_p5) = true)
    {f_p8 od_p8 an_p8 sl_p8 oc_p8 kV_p8 dc_p8 pm_p8 cd_p8 ct_p8}
    (a_p8 : PySem.W.findIn K (.ref k_Hand) "take" = some (some (.ref f_p8))) (i_p8 : PySem.W.isFn K (.ref f_p8) = true) (l_p8 : K.lookup f_p8 = some ⟨oc_p8, od_p8, .func (PySem.W.fnOf "take" "Hand.take" (defArgs s_p8) (defBody s_p8) (defScope s_p8) .none kV_p8 dc_p8 pm_p8 an_p8 cd_p8 ct_p8), sl_p8⟩) (c_p8 : PySem.W.codeIn K cd_p8 "Hand.take" = true) (k_p8 : PySem.W.keepIn K (.ref f_p8) = true)
    {f_p6 od_p6 an_p6 sl_p6 oc_p6 kV_p6 dc_p6 pm_p6 cd_p6 ct_p6}
    (a_p6 : PySem.W.findIn K (.ref k_Hand) "renew" = some (some (.ref f_p6))) (i_p6 : PySem.W.isFn K (.ref f_p6) = true) (l_p6 : K.lookup f_p6 = some ⟨oc_p6, od_p6, .func (PySem.W.fnOf "renew" "Hand.renew" (defArgs s_p6) (defBody s_p6) (defScope s_p6) .none kV_p6 dc_p6 pm_p6 an_p6 cd_p6 ct_p6), sl_p6⟩) (c_p6 : PySem.W.codeIn K cd_p6 "Hand.renew" = true) (k_p6 : PySem.W.keepIn K (.ref f_p6) = true)
    {f_p9 od_p9 an_p9 sl_p9 oc_p9 kV_p9 dc_p9 pm_p9 cd_p9 ct_p9}
    (a_p9 : PySem.W.findIn K (.ref k_Hand) "things" = some (some (.ref f_p9))) (i_p9 : PySem.W.isFn K (.ref f_p9) = true) (l_p9 : K.lookup f_p9 = some ⟨oc_p9, od_p9, .func (PySem.W.fnOf "things" "Hand.things" (defArgs s_p9) (defBody s_p9) (defScope s_p9) .none kV_p9 dc_p9 pm_p9 an_p9 cd_p9 ct_p9), sl_p9⟩) (c_p9 : PySem.W.codeIn K cd_p9 "Hand.things" = true) (k_p9 : PySem.W.keepIn K (.ref f_p9) = true)
    {f_p1 od_p1 an_p1 sl_p1 oc_p1 kV_p1 dc_p1 pm_p1 cd_p1 ct_p1}
    (a_p1 : PySem.W.findIn K (.ref k_Hand) "age" = some (some (.ref f_p1))) (i_p1 : PySem.W.isFn K (.ref f_p1) = true) (l_p1 : K.lookup f_p1 = some ⟨oc_p1, od_p1, .func (PySem.W.fnOf "age" "Hand.age" (defArgs s_p1) (defBody s_p1) (defScope s_p1) .none kV_p1 dc_p1 pm_p1 an_p1 cd_p1 ct_p1), sl_p1⟩) (c_p1 : PySem.W.codeIn K cd_p1 "Hand.age" = true) (k_p1 : PySem.W.keepIn K (.ref f_p1) = true)
    {f_p4 od_p4 an_p4 sl_p4 oc_p4 kV_p4 dc_p4 pm_p4 cd_p4 ct_p4}
    (a_p4 : PySem.W.findIn K (.ref k_Hand) "number" = some (some (.ref f_p4))) (i_p4 : PySem.W.isFn K (.ref f_p4) = true) (l_p4 : K.lookup f_p4 = some ⟨oc_p4, od_p4, .func (PySem.W.fnOf "number" "Hand.number" (defArgs s_p4) (defBody s_p4) (defScope s_p4) .none kV_p4 dc_p4 pm_p4 an_p4 cd_p4 ct_p4), sl_p4⟩) (c_p4 : PySem.W.codeIn K cd_p4 "Hand.number" = true) (k_p4 : PySem.W.keepIn K (.ref f_p4) = true)
    {f_p7 od_p7 an_p7 sl_p7 oc_p7 kV_p7 dc_p7 pm_p7 cd_p7 ct_p7}
    (a_p7 : PySem.W.findIn K (.ref k_Hand) "state" = some (some (.ref f_p7))) (i_p7 : PySem.W.isFn K (.ref f_p7) = true) (l_p7 : K.lookup f_p7 = some ⟨oc_p7, od_p7, .func (PySem.W.fnOf "state" "Hand.state" (defArgs s_p7) (defBody s_p7) (defScope s_p7) .none kV_p7 dc_p7 pm_p7 an_p7 cd_p7 ct_p7), sl_p7⟩) (c_p7 : PySem.W.codeIn K cd_p7 "Hand.state" = true) (k_p7 : PySem.W.keepIn K (.ref f_p7) = true)
    {f_draw od_draw an_draw sl_draw oc_draw kV_draw dc_draw pm_draw cd_draw ct_draw}
    (a_draw : PySem.W.nsIn K mainGlobals "_law_draw" = some (some (.ref f_draw))) (l_draw : K.lookup f_draw = some ⟨oc_draw, od_draw, .func (PySem.W.fnOf "_law_draw" "_law_draw" (defArgs s_draw) (defBody s_draw) (defScope s_draw) .none kV_draw dc_draw pm_draw an_draw cd_draw ct_draw), sl_draw⟩) (c_draw : PySem.W.codeIn K cd_draw "_law_draw" = true) (k_draw : PySem.W.keepIn K (.ref f_draw) = true)
    {f_size od_size an_size sl_size oc_size kV_size dc_size pm_size cd_size ct_size}
    (a_size : PySem.W.nsIn K mainGlobals "_law_size" = some (some (.ref f_size))) (l_size : K.lookup f_size = some ⟨oc_size, od_size, .func (PySem.W.fnOf "_law_size" "_law_size" (defArgs s_size) (defBody s_size) (defScope s_size) .none kV_size dc_size pm_size an_size cd_size ct_size), sl_size⟩) (c_size : PySem.W.codeIn K cd_size "_law_size" = true) (k_size : PySem.W.keepIn K (.ref f_size) = true)
    {f_whole od_whole an_whole sl_whole oc_whole kV_whole dc_whole pm_whole cd_whole ct_whole}
    (a_whole : PySem.W.nsIn K mainGlobals "_law_whole" = some (some (.ref f_whole))) (l_whole : K.lookup f_whole = some ⟨oc_whole, od_whole, .func (PySem.W.fnOf "_law_whole" "_law_whole" (defArgs s_whole) (defBody s_whole) (defScope s_whole) .none kV_whole dc_whole pm_whole an_whole cd_whole ct_whole), sl_whole⟩) (c_whole : PySem.W.codeIn K cd_whole "_law_whole" = true) (k_whole : PySem.W.keepIn K (.ref f_whole) = true)
    {f_mark od_mark an_mark sl_mark oc_mark kV_mark dc_mark pm_mark cd_mark ct_mark}
    (a_mark : PySem.W.nsIn K mainGlobals "_law_mark" = some (some (.ref f_mark))) (l_mark : K.lookup f_mark = some ⟨oc_mark, od_mark, .func (PySem.W.fnOf "_law_mark" "_law_mark" (defArgs s_mark) (defBody s_mark) (defScope s_mark) .none kV_mark dc_mark pm_mark an_mark cd_mark ct_mark), sl_mark⟩) (c_mark : PySem.W.codeIn K cd_mark "_law_mark" = true) (k_mark : PySem.W.keepIn K (.ref f_mark) = true)
    {f_some od_some an_some sl_some oc_some kV_some dc_some pm_some cd_some ct_some}
    (a_some : PySem.W.nsIn K mainGlobals "_law_some" = some (some (.ref f_some))) (l_some : K.lookup f_some = some ⟨oc_some, od_some, .func (PySem.W.fnOf "_law_some" "_law_some" (defArgs s_some) (defBody s_some) (defScope s_some) .none kV_some dc_some pm_some an_some cd_some ct_some), sl_some⟩) (c_some : PySem.W.codeIn K cd_some "_law_some" = true) (k_some : PySem.W.keepIn K (.ref f_some) = true)
    {f_between od_between an_between sl_between oc_between kV_between dc_between pm_between cd_between ct_between}
    (a_between : PySem.W.nsIn K mainGlobals "_law_between" = some (some (.ref f_between))) (l_between : K.lookup f_between = some ⟨oc_between, od_between, .func (PySem.W.fnOf "_law_between" "_law_between" (defArgs s_between) (defBody s_between) (defScope s_between) .none kV_between dc_between pm_between an_between cd_between ct_between), sl_between⟩) (c_between : PySem.W.codeIn K cd_between "_law_between" = true) (k_between : PySem.W.keepIn K (.ref f_between) = true)
    {f_rows od_rows an_rows sl_rows oc_rows kV_rows dc_rows pm_rows cd_rows ct_rows}
    (a_rows : PySem.W.nsIn K mainGlobals "_law_rows" = some (some (.ref f_rows))) (l_rows : K.lookup f_rows = some ⟨oc_rows, od_rows, .func (PySem.W.fnOf "_law_rows" "_law_rows" (defArgs s_rows) (defBody s_rows) (defScope s_rows) .none kV_rows dc_rows pm_rows an_rows cd_rows ct_rows), sl_rows⟩) (c_rows : PySem.W.codeIn K cd_rows "_law_rows" = true) (k_rows : PySem.W.keepIn K (.ref f_rows) = true)
    {f_shown od_shown an_shown sl_shown oc_shown kV_shown dc_shown pm_shown cd_shown ct_shown}
    (a_shown : PySem.W.nsIn K mainGlobals "_law_shown" = some (some (.ref f_shown))) (l_shown : K.lookup f_shown = some ⟨oc_shown, od_shown, .func (PySem.W.fnOf "_law_shown" "_law_shown" (defArgs s_shown) (defBody s_shown) (defScope s_shown) .none kV_shown dc_shown pm_shown an_shown cd_shown ct_shown), sl_shown⟩) (c_shown : PySem.W.codeIn K cd_shown "_law_shown" = true) (k_shown : PySem.W.keepIn K (.ref f_shown) = true)
    {f_state od_state an_state sl_state oc_state kV_state dc_state pm_state cd_state ct_state}
    (a_state : PySem.W.nsIn K mainGlobals "_law_state" = some (some (.ref f_state))) (l_state : K.lookup f_state = some ⟨oc_state, od_state, .func (PySem.W.fnOf "_law_state" "_law_state" (defArgs s_state) (defBody s_state) (defScope s_state) .none kV_state dc_state pm_state an_state cd_state ct_state), sl_state⟩) (c_state : PySem.W.codeIn K cd_state "_law_state" = true) (k_state : PySem.W.keepIn K (.ref f_state) = true)
    {f_put od_put an_put sl_put oc_put kV_put dc_put pm_put cd_put ct_put}
    (a_put : PySem.W.nsIn K mainGlobals "_law_put" = some (some (.ref f_put))) (l_put : K.lookup f_put = some ⟨oc_put, od_put, .func (PySem.W.fnOf "_law_put" "_law_put" (defArgs s_put) (defBody s_put) (defScope s_put) .none kV_put dc_put pm_put an_put cd_put ct_put), sl_put⟩) (c_put : PySem.W.codeIn K cd_put "_law_put" = true) (k_put : PySem.W.keepIn K (.ref f_put) = true)
    {f_thing od_thing an_thing sl_thing oc_thing kV_thing dc_thing pm_thing cd_thing ct_thing}
    (a_thing : PySem.W.nsIn K mainGlobals "_law_thing" = some (some (.ref f_thing))) (l_thing : K.lookup f_thing = some ⟨oc_thing, od_thing, .func (PySem.W.fnOf "_law_thing" "_law_thing" (defArgs s_thing) (defBody s_thing) (defScope s_thing) .none kV_thing dc_thing pm_thing an_thing cd_thing ct_thing), sl_thing⟩) (c_thing : PySem.W.codeIn K cd_thing "_law_thing" = true) (k_thing : PySem.W.keepIn K (.ref f_thing) = true)
    {f_is_told od_is_told an_is_told sl_is_told oc_is_told kV_is_told dc_is_told pm_is_told cd_is_told ct_is_told}
    (a_is_told : PySem.W.nsIn K mainGlobals "_law_is_told" = some (some (.ref f_is_told))) (l_is_told : K.lookup f_is_told = some ⟨oc_is_told, od_is_told, .func (PySem.W.fnOf "_law_is_told" "_law_is_told" (defArgs s_is_told) (defBody s_is_told) (defScope s_is_told) .none kV_is_told dc_is_told pm_is_told an_is_told cd_is_told ct_is_told), sl_is_told⟩) (c_is_told : PySem.W.codeIn K cd_is_told "_law_is_told" = true) (k_is_told : PySem.W.keepIn K (.ref f_is_told) = true)
    {f_deed od_deed an_deed sl_deed oc_deed kV_deed dc_deed pm_deed cd_deed ct_deed}
    (a_deed : PySem.W.nsIn K mainGlobals "_law_deed" = some (some (.ref f_deed))) (l_deed : K.lookup f_deed = some ⟨oc_deed, od_deed, .func (PySem.W.fnOf "_law_deed" "_law_deed" (defArgs s_deed) (defBody s_deed) (defScope s_deed) .none kV_deed dc_deed pm_deed an_deed cd_deed ct_deed), sl_deed⟩) (c_deed : PySem.W.codeIn K cd_deed "_law_deed" = true) (k_deed : PySem.W.keepIn K (.ref f_deed) = true)
    {f_law od_law an_law sl_law oc_law kV_law dc_law pm_law cd_law ct_law}
    (a_law : PySem.W.nsIn K mainGlobals "law" = some (some (.ref f_law))) (l_law : K.lookup f_law = some ⟨oc_law, od_law, .func (PySem.W.fnOf "law" "law" (defArgs s_law) (defBody s_law) (defScope s_law) .none kV_law dc_law pm_law an_law cd_law ct_law), sl_law⟩) (c_law : PySem.W.codeIn K cd_law "law" = true) (k_law : PySem.W.keepIn K (.ref f_law) = true)
    {c_NoHand : Addr} (ac_NoHand : PySem.W.nsIn K mainGlobals "NoHand" = some (some (.ref c_NoHand))) (xc_NoHand : PySem.W.excIn K c_NoHand [.type "ValueError", .type "Exception", .type "BaseException", .type "object"] "ValueError.__new__" = true)
    {c_NoLetters : Addr} (ac_NoLetters : PySem.W.nsIn K mainGlobals "NoLetters" = some (some (.ref c_NoLetters))) (xc_NoLetters : PySem.W.excIn K c_NoLetters [.type "ValueError", .type "Exception", .type "BaseException", .type "object"] "ValueError.__new__" = true)
    {c_NoPlace : Addr} (ac_NoPlace : PySem.W.nsIn K mainGlobals "NoPlace" = some (some (.ref c_NoPlace))) (xc_NoPlace : PySem.W.excIn K c_NoPlace [.type "ValueError", .type "Exception", .type "BaseException", .type "object"] "ValueError.__new__" = true)
    {c_NoRoom : Addr} (ac_NoRoom : PySem.W.nsIn K mainGlobals "NoRoom" = some (some (.ref c_NoRoom))) (xc_NoRoom : PySem.W.excIn K c_NoRoom [.type "ValueError", .type "Exception", .type "BaseException", .type "object"] "ValueError.__new__" = true)
    {c_NoThing : Addr} (ac_NoThing : PySem.W.nsIn K mainGlobals "NoThing" = some (some (.ref c_NoThing))) (xc_NoThing : PySem.W.excIn K c_NoThing [.type "ValueError", .type "Exception", .type "BaseException", .type "object"] "ValueError.__new__" = true)
    {t_SMALL:Tok} (q_SMALL:PySem.W.nsIn K mainGlobals "SMALL" = some (some (.str "abcdefghijklmnopqrstuvwxyz" t_SMALL)))
    {t_THING_SIGNS:Tok} (q_THING_SIGNS:PySem.W.nsIn K mainGlobals "THING_SIGNS" = some (some (.str "abcdefghijklmnopqrstuvwxyz0123456789" t_THING_SIGNS)))
    {t_LONGEST_THING:Tok} (q_LONGEST_THING:PySem.W.nsIn K mainGlobals "LONGEST_THING" = some (some (.int 12 t_LONGEST_THING)))
    (ak_Hand:PySem.W.nsIn K mainGlobals "Hand" = some (some (.ref k_Hand))) (pg_Hand:PySem.W.plainGet K k_Hand Str.empty = true) (hd_Hand:PySem.W.hasDictIn K k_Hand = true) (po_Hand:PySem.W.plainOver K k_Hand = true)
    (sa_Hand:PySem.W.findIn K (.ref k_Hand) "__setattr__" = some (some (.builtin "object.__setattr__"))) (mk_Hand:PySem.W.makesIn K k_Hand = true) (kc_Hand:PySem.W.keepIn K (.ref k_Hand) = true)
    (nf_Hand_letters:PySem.W.findIn K (.ref k_Hand) "letters" = some none)
    (nf_Hand_hands:PySem.W.findIn K (.ref k_Hand) "hands" = some none)
    (nf_Hand_own_number:PySem.W.findIn K (.ref k_Hand) "own_number" = some none)
    (nf_Hand_renewals:PySem.W.findIn K (.ref k_Hand) "renewals" = some none)
    (nf_Hand_thing_of:PySem.W.findIn K (.ref k_Hand) "thing_of" = some none)
    (nf_Hand_taken:PySem.W.findIn K (.ref k_Hand) "taken" = some none)
    (z_all:PySem.W.nsIn K mainGlobals "all" = some none)
    (z_dict:PySem.W.nsIn K mainGlobals "dict" = some none)
    (z_int:PySem.W.nsIn K mainGlobals "int" = some none)
    (z_isinstance:PySem.W.nsIn K mainGlobals "isinstance" = some none)
    (z_len:PySem.W.nsIn K mainGlobals "len" = some none)
    (z_list:PySem.W.nsIn K mainGlobals "list" = some none)
    (z_min:PySem.W.nsIn K mainGlobals "min" = some none)
    (z_range:PySem.W.nsIn K mainGlobals "range" = some none)
    (z_sorted:PySem.W.nsIn K mainGlobals "sorted" = some none)
    (z_tuple:PySem.W.nsIn K mainGlobals "tuple" = some none)
    : ∃ a : Ad, Tx K mg a ∧ mg "law" = some (.ref a.f_law) ∧ ∀ (s : Shared) (v : Value), BindsTo s a.fd_law ⟨[v], []⟩ [("_law_script", v)] := by
  have F_p25:=fun_mk (st:=s_p25) l_p25 c_p25 k_p25
  have b_p25 := F_p25.binds (ps := ["letters", "hands"]) fun _ _ _ _ _ _ us hl => by obtain ⟨_, _, e⟩ := ex2 hl; subst e; rfl
  have F_p43:=fun_mk (st:=s_p43) l_p43 c_p43 k_p43
  have b_p43 := F_p43.binds (ps := ["letters", "long"]) fun _ _ _ _ _ _ us hl => by obtain ⟨_, _, e⟩ := ex2 hl; subst e; rfl
  have F_p31:=fun_mk (st:=s_p31) l_p31 c_p31 k_p31
  have b_p31 := F_p31.binds (ps := ["mark", "place"]) fun _ _ _ _ _ _ us hl => by obtain ⟨_, _, e⟩ := ex2 hl; subst e; rfl
  have F_p51:=fun_mk (st:=s_p51) l_p51 c_p51 k_p51
  have b_p51 := F_p51.binds (ps := ["letters", "mark", "long"]) fun _ _ _ _ _ _ us hl => by obtain ⟨_, _, _, e⟩ := ex3 hl; subst e; rfl
  have F_p38:=fun_mk (st:=s_p38) l_p38 c_p38 k_p38
  have b_p38 := F_p38.binds (ps := ["letters", "number", "long"]) fun _ _ _ _ _ _ us hl => by obtain ⟨_, _, _, e⟩ := ex3 hl; subst e; rfl
  have F_p30:=fun_mk (st:=s_p30) l_p30 c_p30 k_p30
  have b_p30 := F_p30.binds (ps := ["letters", "hands", "hand"]) fun _ _ _ _ _ _ us hl => by obtain ⟨_, _, _, e⟩ := ex3 hl; subst e; rfl
  have F_p27:=fun_mk (st:=s_p27) l_p27 c_p27 k_p27
  have b_p27 := F_p27.binds (ps := ["low", "high"]) fun _ _ _ _ _ _ us hl => by obtain ⟨_, _, e⟩ := ex2 hl; subst e; rfl
  have F_p32:=fun_mk (st:=s_p32) l_p32 c_p32 k_p32
  have b_p32 := F_p32.binds (ps := ["letters", "high", "long"]) fun _ _ _ _ _ _ us hl => by obtain ⟨_, _, _, e⟩ := ex3 hl; subst e; rfl
  have F_p41:=fun_mk (st:=s_p41) l_p41 c_p41 k_p41
  have b_p41 := F_p41.binds (ps := ["letters", "ends", "number"]) fun _ _ _ _ _ _ us hl => by obtain ⟨_, _, _, e⟩ := ex3 hl; subst e; rfl
  have F_p42:=fun_mk (st:=s_p42) l_p42 c_p42 k_p42
  have b_p42 := F_p42.binds (ps := ["letters", "ends", "low_whole"]) fun _ _ _ _ _ _ us hl => by obtain ⟨_, _, _, e⟩ := ex3 hl; subst e; rfl
  have F_p40:=fun_mk (st:=s_p40) l_p40 c_p40 k_p40
  have b_p40 := F_p40.binds (ps := ["letters", "ends", "high", "high_whole", "long", "beginnings"]) fun _ _ _ _ _ _ us hl => by obtain ⟨_, _, _, _, _, _, e⟩ := ex6 hl; subst e; rfl
  have F_p29:=fun_mk (st:=s_p29) l_p29 c_p29 k_p29
  have b_p29 := F_p29.binds (ps := ["letters", "ends", "low", "high", "long", "beginnings"]) fun _ _ _ _ _ _ us hl => by obtain ⟨_, _, _, _, _, _, e⟩ := ex6 hl; subst e; rfl
  have F_p47:=fun_mk (st:=s_p47) l_p47 c_p47 k_p47
  have b_p47 := F_p47.binds (ps := ["letters", "hands", "hand", "low", "high", "long"]) fun _ _ _ _ _ _ us hl => by obtain ⟨_, _, _, _, _, _, e⟩ := ex6 hl; subst e; rfl
  have F_p39:=fun_mk (st:=s_p39) l_p39 c_p39 k_p39
  have b_p39 := F_p39.binds (ps := ["letters", "hands", "hand", "low", "high", "long", "number"]) fun _ _ _ _ _ _ us hl => by obtain ⟨_, _, _, _, _, _, _, e⟩ := ex7 hl; subst e; rfl
  have F_p35:=fun_mk (st:=s_p35) l_p35 c_p35 k_p35
  have b_p35 := F_p35.binds (ps := ["letters", "ends", "low", "high", "many", "beginnings"]) fun _ _ _ _ _ _ us hl => by obtain ⟨_, _, _, _, _, _, e⟩ := ex6 hl; subst e; rfl
  have F_p36:=fun_mk (st:=s_p36) l_p36 c_p36 k_p36
  have b_p36 := F_p36.binds (ps := ["letters", "hands", "hand", "low", "high", "many"]) fun _ _ _ _ _ _ us hl => by obtain ⟨_, _, _, _, _, _, e⟩ := ex6 hl; subst e; rfl
  have F_p50:=fun_mk (st:=s_p50) l_p50 c_p50 k_p50
  have b_p50 := F_p50.binds (ps := ["low", "high", "many"]) fun _ _ _ _ _ _ us hl => by obtain ⟨_, _, _, e⟩ := ex3 hl; subst e; rfl
  have F_p37:=fun_mk (st:=s_p37) l_p37 c_p37 k_p37
  have b_p37 := F_p37.binds (ps := ["letters", "hands", "hand", "low", "high"]) fun _ _ _ _ _ _ us hl => by obtain ⟨_, _, _, _, _, e⟩ := ex5 hl; subst e; rfl
  have F_p48:=fun_mk (st:=s_p48) l_p48 c_p48 k_p48
  have b_p48 := F_p48.binds (ps := ["many", "whole"]) fun _ _ _ _ _ _ us hl => by obtain ⟨_, _, e⟩ := ex2 hl; subst e; rfl
  have F_p46:=fun_mk (st:=s_p46) l_p46 c_p46 k_p46
  have b_p46 := F_p46.binds (ps := ["letters", "many"]) fun _ _ _ _ _ _ us hl => by obtain ⟨_, _, e⟩ := ex2 hl; subst e; rfl
  have F_p45:=fun_mk (st:=s_p45) l_p45 c_p45 k_p45
  have b_p45 := F_p45.binds (ps := ["letters", "many"]) fun _ _ _ _ _ _ us hl => by obtain ⟨_, _, e⟩ := ex2 hl; subst e; rfl
  have F_p44:=fun_mk (st:=s_p44) l_p44 c_p44 k_p44
  have b_p44 := F_p44.binds (ps := ["letters", "known"]) fun _ _ _ _ _ _ us hl => by obtain ⟨_, _, e⟩ := ex2 hl; subst e; rfl
  have F_p49:=fun_mk (st:=s_p49) l_p49 c_p49 k_p49
  have b_p49 := F_p49.binds (ps := ["letters", "hands", "renewals", "things", "taken"]) fun _ _ _ _ _ _ us hl => by obtain ⟨_, _, _, _, _, e⟩ := ex5 hl; subst e; rfl
  have F_p33:=fun_mk (st:=s_p33) l_p33 c_p33 k_p33
  have b_p33:=F_p33.binds (ps:=["text"]) fun _ _ _ _ _ _ us hl=>by obtain ⟨_,e⟩:=ex1 hl; subst e; rfl
  have F_p28:=fun_mk (st:=s_p28) l_p28 c_p28 k_p28
  have b_p28:=F_p28.binds (ps:=["text"]) fun _ _ _ _ _ _ us hl=>by obtain ⟨_,e⟩:=ex1 hl; subst e; rfl
  have F_p26:=fun_mk (st:=s_p26) l_p26 c_p26 k_p26
  have b_p26 := F_p26.binds (ps := ["place", "many"]) fun _ _ _ _ _ _ us hl => by obtain ⟨_, _, e⟩ := ex2 hl; subst e; rfl
  have F_p24:=fun_mk (st:=s_p24) l_p24 c_p24 k_p24
  have b_p24 := F_p24.binds (ps := ["number", "hands"]) fun _ _ _ _ _ _ us hl => by obtain ⟨_, _, e⟩ := ex2 hl; subst e; rfl
  have F_p0:=fun_mk (st:=s_p0) l_p0 c_p0 k_p0
  have b_p0 := F_p0.binds (ps := ["self", "letters", "hands", "number"]) fun _ _ _ _ _ _ us hl => by obtain ⟨_, _, _, _, e⟩ := ex4 hl; subst e; rfl
  have F_p3:=fun_mk (st:=s_p3) l_p3 c_p3 k_p3
  have b_p3:=F_p3.binds (ps:=["self"]) fun _ _ _ _ _ _ us hl=>by obtain ⟨_,e⟩:=ex1 hl; subst e; rfl
  have F_p2:=fun_mk (st:=s_p2) l_p2 c_p2 k_p2
  have b_p2 := F_p2.binds (ps := ["self", "low"]) fun _ _ _ _ _ _ us hl => by obtain ⟨_, _, e⟩ := ex2 hl; subst e; rfl
  have F_p5:=fun_mk (st:=s_p5) l_p5 c_p5 k_p5
  have b_p5 := F_p5.binds (ps := ["self", "place", "thing"]) fun _ _ _ _ _ _ us hl => by obtain ⟨_, _, _, e⟩ := ex3 hl; subst e; rfl
  have F_p8:=fun_mk (st:=s_p8) l_p8 c_p8 k_p8
  have b_p8 := F_p8.binds (ps := ["self", "place"]) fun _ _ _ _ _ _ us hl => by obtain ⟨_, _, e⟩ := ex2 hl; subst e; rfl
  have F_p6:=fun_mk (st:=s_p6) l_p6 c_p6 k_p6
  have b_p6:=F_p6.binds (ps:=["self"]) fun _ _ _ _ _ _ us hl=>by obtain ⟨_,e⟩:=ex1 hl; subst e; rfl
  have F_p9:=fun_mk (st:=s_p9) l_p9 c_p9 k_p9
  have b_p9:=F_p9.binds (ps:=["self"]) fun _ _ _ _ _ _ us hl=>by obtain ⟨_,e⟩:=ex1 hl; subst e; rfl
  have F_p1:=fun_mk (st:=s_p1) l_p1 c_p1 k_p1
  have b_p1:=F_p1.binds (ps:=["self"]) fun _ _ _ _ _ _ us hl=>by obtain ⟨_,e⟩:=ex1 hl; subst e; rfl
  have F_p4:=fun_mk (st:=s_p4) l_p4 c_p4 k_p4
  have b_p4:=F_p4.binds (ps:=["self"]) fun _ _ _ _ _ _ us hl=>by obtain ⟨_,e⟩:=ex1 hl; subst e; rfl
  have F_p7:=fun_mk (st:=s_p7) l_p7 c_p7 k_p7
  have b_p7:=F_p7.binds (ps:=["self"]) fun _ _ _ _ _ _ us hl=>by obtain ⟨_,e⟩:=ex1 hl; subst e; rfl
  have F_draw:=fun_mk (st:=s_draw) l_draw c_draw k_draw
  have b_draw := F_draw.binds (ps := ["_law_script", "_law_k", "_law_many"]) fun _ _ _ _ _ _ us hl => by obtain ⟨_, _, _, e⟩ := ex3 hl; subst e; rfl
  have F_size:=fun_mk (st:=s_size) l_size c_size k_size
  have b_size:=F_size.binds (ps:=["_law_script"]) fun _ _ _ _ _ _ us hl=>by obtain ⟨_,e⟩:=ex1 hl; subst e; rfl
  have F_whole:=fun_mk (st:=s_whole) l_whole c_whole k_whole
  have b_whole := F_whole.binds (ps := ["_law_letters", "_law_mark_here", "_law_long"]) fun _ _ _ _ _ _ us hl => by obtain ⟨_, _, _, e⟩ := ex3 hl; subst e; rfl
  have F_mark:=fun_mk (st:=s_mark) l_mark c_mark k_mark
  have b_mark := F_mark.binds (ps := ["_law_letters", "_law_number", "_law_long"]) fun _ _ _ _ _ _ us hl => by obtain ⟨_, _, _, e⟩ := ex3 hl; subst e; rfl
  have F_some:=fun_mk (st:=s_some) l_some c_some k_some
  have b_some := F_some.binds (ps := ["_law_letters", "_law_hands", "_law_hand", "_law_low", "_law_high", "_law_long"]) fun _ _ _ _ _ _ us hl => by obtain ⟨_, _, _, _, _, _, e⟩ := ex6 hl; subst e; rfl
  have F_between:=fun_mk (st:=s_between) l_between c_between k_between
  have b_between := F_between.binds (ps := ["_law_letters", "_law_hands", "_law_hand", "_law_low", "_law_high"]) fun _ _ _ _ _ _ us hl => by obtain ⟨_, _, _, _, _, e⟩ := ex5 hl; subst e; rfl
  have F_rows:=fun_mk (st:=s_rows) l_rows c_rows k_rows
  have b_rows := F_rows.binds (ps := ["_law_letters", "_law_model"]) fun _ _ _ _ _ _ us hl => by obtain ⟨_, _, e⟩ := ex2 hl; subst e; rfl
  have F_shown:=fun_mk (st:=s_shown) l_shown c_shown k_shown
  have b_shown:=F_shown.binds (ps:=["_law_model"]) fun _ _ _ _ _ _ us hl=>by obtain ⟨_,e⟩:=ex1 hl; subst e; rfl
  have F_state:=fun_mk (st:=s_state) l_state c_state k_state
  have b_state := F_state.binds (ps := ["_law_size_here", "_law_model"]) fun _ _ _ _ _ _ us hl => by obtain ⟨_, _, e⟩ := ex2 hl; subst e; rfl
  have F_put:=fun_mk (st:=s_put) l_put c_put k_put
  have b_put := F_put.binds (ps := ["_law_size_here", "_law_hand", "_law_model", "_law_place", "_law_thing_here"]) fun _ _ _ _ _ _ us hl => by obtain ⟨_, _, _, _, _, e⟩ := ex5 hl; subst e; rfl
  have F_thing:=fun_mk (st:=s_thing) l_thing c_thing k_thing
  have b_thing := F_thing.binds (ps := ["_law_script", "_law_k"]) fun _ _ _ _ _ _ us hl => by obtain ⟨_, _, e⟩ := ex2 hl; subst e; rfl
  have F_is_told:=fun_mk (st:=s_is_told) l_is_told c_is_told k_is_told
  have b_is_told := F_is_told.binds (ps := ["_law_hand", "_law_size_here", "_law_number", "_law_model"]) fun _ _ _ _ _ _ us hl => by obtain ⟨_, _, _, _, e⟩ := ex4 hl; subst e; rfl
  have F_deed:=fun_mk (st:=s_deed) l_deed c_deed k_deed
  have b_deed := F_deed.binds (ps := ["_law_script", "_law_k", "_law_size_here", "_law_hand", "_law_number", "_law_model"]) fun _ _ _ _ _ _ us hl => by obtain ⟨_, _, _, _, _, _, e⟩ := ex6 hl; subst e; rfl
  have F_law:=fun_mk (st:=s_law) l_law c_law k_law
  have b_law:=F_law.binds (ps:=["_law_script"]) fun _ _ _ _ _ _ us hl=>by obtain ⟨_,e⟩:=ex1 hl; subst e; rfl
  exact ⟨⟨k_Hand,c_NoHand,c_NoLetters,c_NoPlace,c_NoRoom,c_NoThing,f_p25,f_p43,f_p31,f_p51,f_p38,f_p30,f_p27,f_p32,f_p41,f_p42,f_p40,f_p29,f_p47,f_p39,f_p35,f_p36,f_p50,f_p37,f_p48,f_p46,f_p45,f_p44,f_p49,f_p33,f_p28,f_p26,f_p24,f_p0,f_p3,f_p2,f_p5,f_p8,f_p6,f_p9,f_p1,f_p4,f_p7,f_draw,f_size,f_whole,f_mark,f_some,f_between,f_rows,f_shown,f_state,f_put,f_thing,f_is_told,f_deed,f_law,_,_,_,_,_,_,_,_,_,_,_,_,_,_,_,_,_,_,_,_,_,_,_,_,_,_,_,_,_,_,_,_,_,_,_,_,_,_,_,_,_,_,_,_,_,_,_,_,_,_,_⟩,⟨PySem.W.mg_none_of X G z_all,PySem.W.mg_none_of X G z_dict,PySem.W.mg_none_of X G z_int,PySem.W.mg_none_of X G z_isinstance,PySem.W.mg_none_of X G z_len,PySem.W.mg_none_of X G z_list,PySem.W.mg_none_of X G z_min,PySem.W.mg_none_of X G z_range,PySem.W.mg_none_of X G z_sorted,PySem.W.mg_none_of X G z_tuple,⟨_,PySem.W.mg_of X G q_SMALL⟩,⟨_,PySem.W.mg_of X G q_THING_SIGNS⟩,⟨_,PySem.W.mg_of X G q_LONGEST_THING⟩,PySem.W.mg_of X G ak_Hand,⟨pg_Hand,hd_Hand,po_Hand,sa_Hand⟩,⟨mk_Hand,a_p0,i_p0,kc_Hand⟩,nf_Hand_letters,nf_Hand_hands,nf_Hand_own_number,nf_Hand_renewals,nf_Hand_thing_of,nf_Hand_taken,PySem.W.mg_of X G ac_NoHand,xc_NoHand,PySem.W.mg_of X G ac_NoLetters,xc_NoLetters,PySem.W.mg_of X G ac_NoPlace,xc_NoPlace,PySem.W.mg_of X G ac_NoRoom,xc_NoRoom,PySem.W.mg_of X G ac_NoThing,xc_NoThing,PySem.W.mg_of X G a_p25,F_p25,b_p25,PySem.W.mg_of X G a_p43,F_p43,b_p43,PySem.W.mg_of X G a_p31,F_p31,b_p31,PySem.W.mg_of X G a_p51,F_p51,b_p51,PySem.W.mg_of X G a_p38,F_p38,b_p38,PySem.W.mg_of X G a_p30,F_p30,b_p30,PySem.W.mg_of X G a_p27,F_p27,b_p27,PySem.W.mg_of X G a_p32,F_p32,b_p32,PySem.W.mg_of X G a_p41,F_p41,b_p41,PySem.W.mg_of X G a_p42,F_p42,b_p42,PySem.W.mg_of X G a_p40,F_p40,b_p40,PySem.W.mg_of X G a_p29,F_p29,b_p29,PySem.W.mg_of X G a_p47,F_p47,b_p47,PySem.W.mg_of X G a_p39,F_p39,b_p39,PySem.W.mg_of X G a_p35,F_p35,b_p35,PySem.W.mg_of X G a_p36,F_p36,b_p36,PySem.W.mg_of X G a_p50,F_p50,b_p50,PySem.W.mg_of X G a_p37,F_p37,b_p37,PySem.W.mg_of X G a_p48,F_p48,b_p48,PySem.W.mg_of X G a_p46,F_p46,b_p46,PySem.W.mg_of X G a_p45,F_p45,b_p45,PySem.W.mg_of X G a_p44,F_p44,b_p44,PySem.W.mg_of X G a_p49,F_p49,b_p49,PySem.W.mg_of X G a_p33,F_p33,b_p33,PySem.W.mg_of X G a_p28,F_p28,b_p28,PySem.W.mg_of X G a_p26,F_p26,b_p26,PySem.W.mg_of X G a_p24,F_p24,b_p24,⟨a_p0,i_p0,k_p0⟩,F_p0,b_p0,⟨a_p3,i_p3,k_p3⟩,F_p3,b_p3,⟨a_p2,i_p2,k_p2⟩,F_p2,b_p2,⟨a_p5,i_p5,k_p5⟩,F_p5,b_p5,⟨a_p8,i_p8,k_p8⟩,F_p8,b_p8,⟨a_p6,i_p6,k_p6⟩,F_p6,b_p6,⟨a_p9,i_p9,k_p9⟩,F_p9,b_p9,⟨a_p1,i_p1,k_p1⟩,F_p1,b_p1,⟨a_p4,i_p4,k_p4⟩,F_p4,b_p4,⟨a_p7,i_p7,k_p7⟩,F_p7,b_p7,PySem.W.mg_of X G a_draw,F_draw,b_draw,PySem.W.mg_of X G a_size,F_size,b_size,PySem.W.mg_of X G a_whole,F_whole,b_whole,PySem.W.mg_of X G a_mark,F_mark,b_mark,PySem.W.mg_of X G a_some,F_some,b_some,PySem.W.mg_of X G a_between,F_between,b_between,PySem.W.mg_of X G a_rows,F_rows,b_rows,PySem.W.mg_of X G a_shown,F_shown,b_shown,PySem.W.mg_of X G a_state,F_state,b_state,PySem.W.mg_of X G a_put,F_put,b_put,PySem.W.mg_of X G a_thing,F_thing,b_thing,PySem.W.mg_of X G a_is_told,F_is_told,b_is_told,PySem.W.mg_of X G a_deed,F_deed,b_deed,PySem.W.mg_of X G a_law,F_law,b_law⟩,PySem.W.mg_of X G a_law,fun s v=>.of_eq rfl⟩
theorem walk {l:PySem.W.OpenLaw} {q:Program} {loose:List Str} {XP:(Str→Option Value)→Heap→Prop} {YP:World→Heap→Prop} {d:DefRec} {K:Params→PySem.W.Frag} (hn:l.most = some 63) (hdf:d.params.defaults = [])
    (hY:∀ (w:World) (h:Heap),YP w h→(K w.params).In h)
    (F:∀ (w:World) (mg:Str→Option Value) (fa:Addr) (h:Heap),(K w.params).In h→h.Ns mainGlobals mg→mg d.name = some (.ref fa)→
      ∃ fd : FuncData, (∀ (s : Shared) (u : Value), BindsTo s fd ⟨[u], []⟩ [("_law_script", u)]) ∧ ∀ base : Heap, (K w.params).In base → base.Ns mainGlobals mg → FnOk l.prog w (K w.params) mg base CX0 9 fa fd ["_law_script"] (spLaw (K w.params))) :
    PySem.W.WalkO q loose XP YP l.row.toRowW d [] (fun f vs=>PySem.call f vs):=
  L2.walk_of (n:=63) (k:=9) (x:="_law_script") (CX:=fun _=>CX0) (sp:=fun w=>spLaw (K w.params)) hn (by decide) hdf ⟨rfl,by decide,by decide⟩ hY F (fun _ _ a ns hl _ hS=>⟨a,ns,rfl,hS,hl,fun _=>rfl⟩) fun _ _ _ _ _ z=>z
end K60
open PySem PySem.W PyProof.Rows
set_option maxRecDepth 100000 in
set_option maxHeartbeats 0 in
theorem PySem.Challenge.cw_shelfmark_k60_a_hand_alone_holds : PySem.Challenge.rw_shelfmark_k60_a_hand_alone.Holds := by
  w_on; o_law; k_head; (case hw=>w_witness2)
  k_fill
  refine K60.walk (l:=PySem.Challenge.rw_shelfmark_k60_a_hand_alone) rfl rfl (fun w h Y=>PySem.W.kIn_of Y) ?F
  case F=>
    intro w mg fa h KX G hmg
    have M : ∃ a : K60.Ad, K60.Tx (L2.KOf KX) mg a ∧ mg "law" = some (.ref a.f_law) ∧ ∀ (s : Shared) (v : Value), BindsTo s a.fd_law ⟨[v], []⟩ [("_law_script", v)] := by
      dsimp only [L2.KOf]
      refine' K60.tx_mk KX G (ak_Hand:=?ak_Hand) (pg_Hand:=?pg_Hand) (hd_Hand:=?hd_Hand) (po_Hand:=?po_Hand) (sa_Hand:=?sa_Hand) (mk_Hand:=?mk_Hand) (kc_Hand:=?kc_Hand) (nf_Hand_letters:=?nf_Hand_letters) (nf_Hand_hands:=?nf_Hand_hands) (nf_Hand_own_number:=?nf_Hand_own_number) (nf_Hand_renewals:=?nf_Hand_renewals) (nf_Hand_thing_of:=?nf_Hand_thing_of) (nf_Hand_taken:=?nf_Hand_taken) (a_p25:=?a_p25) (l_p25:=?l_p25) (c_p25:=?c_p25) (k_p25:=?k_p25) (a_p43:=?a_p43) (l_p43:=?l_p43) (c_p43:=?c_p43) (k_p43:=?k_p43) (a_p31:=?a_p31) (l_p31:=?l_p31) (c_p31:=?c_p31) (k_p31:=?k_p31) (a_p51:=?a_p51) (l_p51:=?l_p51) (c_p51:=?c_p51) (k_p51:=?k_p51) (a_p38:=?a_p38) (l_p38:=?l_p38) (c_p38:=?c_p38) (k_p38:=?k_p38) (a_p30:=?a_p30) (l_p30:=?l_p30) (c_p30:=?c_p30) (k_p30:=?k_p30) (a_p27:=?a_p27) (l_p27:=?l_p27) (c_p27:=?c_p27) (k_p27:=?k_p27) (a_p32:=?a_p32) (l_p32:=?l_p32) (c_p32:=?c_p32) (k_p32:=?k_p32) (a_p41:=?a_p41) (l_p41:=?l_p41) (c_p41:=?c_p41) (k_p41:=?k_p41) (a_p42:=?a_p42) (l_p42:=?l_p42) (c_p42:=?c_p42) (k_p42:=?k_p42) (a_p40:=?a_p40) (l_p40:=?l_p40) (c_p40:=?c_p40) (k_p40:=?k_p40) (a_p29:=?a_p29) (l_p29:=?l_p29) (c_p29:=?c_p29) (k_p29:=?k_p29) (a_p47:=?a_p47) (l_p47:=?l_p47) (c_p47:=?c_p47) (k_p47:=?k_p47) (a_p39:=?a_p39) (l_p39:=?l_p39) (c_p39:=?c_p39) (k_p39:=?k_p39) (a_p35:=?a_p35) (l_p35:=?l_p35) (c_p35:=?c_p35) (k_p35:=?k_p35) (a_p36:=?a_p36) (l_p36:=?l_p36) (c_p36:=?c_p36) (k_p36:=?k_p36) (a_p50:=?a_p50) (l_p50:=?l_p50) (c_p50:=?c_p50) (k_p50:=?k_p50) (a_p37:=?a_p37) (l_p37:=?l_p37) (c_p37:=?c_p37) (k_p37:=?k_p37) (a_p48:=?a_p48) (l_p48:=?l_p48) (c_p48:=?c_p48) (k_p48:=?k_p48) (a_p46:=?a_p46) (l_p46:=?l_p46) (c_p46:=?c_p46) (k_p46:=?k_p46) (a_p45:=?a_p45) (l_p45:=?l_p45) (c_p45:=?c_p45) (k_p45:=?k_p45) (a_p44:=?a_p44) (l_p44:=?l_p44) (c_p44:=?c_p44) (k_p44:=?k_p44) (a_p49:=?a_p49) (l_p49:=?l_p49) (c_p49:=?c_p49) (k_p49:=?k_p49) (a_p33:=?a_p33) (l_p33:=?l_p33) (c_p33:=?c_p33) (k_p33:=?k_p33) (a_p28:=?a_p28) (l_p28:=?l_p28) (c_p28:=?c_p28) (k_p28:=?k_p28) (a_p26:=?a_p26) (l_p26:=?l_p26) (c_p26:=?c_p26) (k_p26:=?k_p26) (a_p24:=?a_p24) (l_p24:=?l_p24) (c_p24:=?c_p24) (k_p24:=?k_p24) (a_p0:=?a_p0) (i_p0:=?i_p0) (l_p0:=?l_p0) (c_p0:=?c_p0) (k_p0:=?k_p0) (a_p3:=?a_p3) (i_p3:=?i_p3) (l_p3:=?l_p3) (c_p3:=?c_p3) (k_p3:=?k_p3) (a_p2:=?a_p2) (i_p2:=?i_p2) (l_p2:=?l_p2) (c_p2:=?c_p2) (k_p2:=?k_p2) (a_p5:=?a_p5) (i_p5:=?i_p5) (l_p5:=?l_p5) (c_p5:=?c_p5) (k_p5:=?k_p5) (a_p8:=?a_p8) (i_p8:=?i_p8) (l_p8:=?l_p8) (c_p8:=?c_p8) (k_p8:=?k_p8) (a_p6:=?a_p6) (i_p6:=?i_p6) (l_p6:=?l_p6) (c_p6:=?c_p6) (k_p6:=?k_p6) (a_p9:=?a_p9) (i_p9:=?i_p9) (l_p9:=?l_p9) (c_p9:=?c_p9) (k_p9:=?k_p9) (a_p1:=?a_p1) (i_p1:=?i_p1) (l_p1:=?l_p1) (c_p1:=?c_p1) (k_p1:=?k_p1) (a_p4:=?a_p4) (i_p4:=?i_p4) (l_p4:=?l_p4) (c_p4:=?c_p4) (k_p4:=?k_p4) (a_p7:=?a_p7) (i_p7:=?i_p7) (l_p7:=?l_p7) (c_p7:=?c_p7) (k_p7:=?k_p7) (a_draw:=?a_draw) (l_draw:=?l_draw) (c_draw:=?c_draw) (k_draw:=?k_draw) (a_size:=?a_size) (l_size:=?l_size) (c_size:=?c_size) (k_size:=?k_size) (a_whole:=?a_whole) (l_whole:=?l_whole) (c_whole:=?c_whole) (k_whole:=?k_whole) (a_mark:=?a_mark) (l_mark:=?l_mark) (c_mark:=?c_mark) (k_mark:=?k_mark) (a_some:=?a_some) (l_some:=?l_some) (c_some:=?c_some) (k_some:=?k_some) (a_between:=?a_between) (l_between:=?l_between) (c_between:=?c_between) (k_between:=?k_between) (a_rows:=?a_rows) (l_rows:=?l_rows) (c_rows:=?c_rows) (k_rows:=?k_rows) (a_shown:=?a_shown) (l_shown:=?l_shown) (c_shown:=?c_shown) (k_shown:=?k_shown) (a_state:=?a_state) (l_state:=?l_state) (c_state:=?c_state) (k_state:=?k_state) (a_put:=?a_put) (l_put:=?l_put) (c_put:=?c_put) (k_put:=?k_put) (a_thing:=?a_thing) (l_thing:=?l_thing) (c_thing:=?c_thing) (k_thing:=?k_thing) (a_is_told:=?a_is_told) (l_is_told:=?l_is_told) (c_is_told:=?c_is_told) (k_is_told:=?k_is_told) (a_deed:=?a_deed) (l_deed:=?l_deed) (c_deed:=?c_deed) (k_deed:=?k_deed) (a_law:=?a_law) (l_law:=?l_law) (c_law:=?c_law) (k_law:=?k_law) (ac_NoHand:=?ac_NoHand) (xc_NoHand:=?xc_NoHand) (ac_NoLetters:=?ac_NoLetters) (xc_NoLetters:=?xc_NoLetters) (ac_NoPlace:=?ac_NoPlace) (xc_NoPlace:=?xc_NoPlace) (ac_NoRoom:=?ac_NoRoom) (xc_NoRoom:=?xc_NoRoom) (ac_NoThing:=?ac_NoThing) (xc_NoThing:=?xc_NoThing) (q_SMALL:=?q_SMALL) (q_THING_SIGNS:=?q_THING_SIGNS) (q_LONGEST_THING:=?q_LONGEST_THING) (z_all:=?z_all) (z_dict:=?z_dict) (z_int:=?z_int) (z_isinstance:=?z_isinstance) (z_len:=?z_len) (z_list:=?z_list) (z_min:=?z_min) (z_range:=?z_range) (z_sorted:=?z_sorted) (z_tuple:=?z_tuple)
      (case ak_Hand=>k_is)
      (case pg_Hand=>k_is)
      (case hd_Hand=>k_is)
      (case po_Hand=>k_is)
      (case sa_Hand=>k_is)
      (case mk_Hand=>k_is)
      (case kc_Hand=>k_is)
      (case nf_Hand_letters=>k_is)
      (case nf_Hand_hands=>k_is)
      (case nf_Hand_own_number=>k_is)
      (case nf_Hand_renewals=>k_is)
      (case nf_Hand_thing_of=>k_is)
      (case nf_Hand_taken=>k_is)
      (case a_p25=>k_is)
      (case l_p25=>k_is)
      (case c_p25=>k_is)
      (case k_p25=>k_is)
      (case a_p43=>k_is)
      (case l_p43=>k_is)
      (case c_p43=>k_is)
      (case k_p43=>k_is)
      (case a_p31=>k_is)
      (case l_p31=>k_is)
      (case c_p31=>k_is)
      (case k_p31=>k_is)
      (case a_p51=>k_is)
      (case l_p51=>k_is)
      (case c_p51=>k_is)
      (case k_p51=>k_is)
      (case a_p38=>k_is)
      (case l_p38=>k_is)
      (case c_p38=>k_is)
      (case k_p38=>k_is)
      (case a_p30=>k_is)
      (case l_p30=>k_is)
      (case c_p30=>k_is)
      (case k_p30=>k_is)
      (case a_p27=>k_is)
      (case l_p27=>k_is)
      (case c_p27=>k_is)
      (case k_p27=>k_is)
      (case a_p32=>k_is)
      (case l_p32=>k_is)
      (case c_p32=>k_is)
      (case k_p32=>k_is)
      (case a_p41=>k_is)
      (case l_p41=>k_is)
      (case c_p41=>k_is)
      (case k_p41=>k_is)
      (case a_p42=>k_is)
      (case l_p42=>k_is)
      (case c_p42=>k_is)
      (case k_p42=>k_is)
      (case a_p40=>k_is)
      (case l_p40=>k_is)
      (case c_p40=>k_is)
      (case k_p40=>k_is)
      (case a_p29=>k_is)
      (case l_p29=>k_is)
      (case c_p29=>k_is)
      (case k_p29=>k_is)
      (case a_p47=>k_is)
      (case l_p47=>k_is)
      (case c_p47=>k_is)
      (case k_p47=>k_is)
      (case a_p39=>k_is)
      (case l_p39=>k_is)
      (case c_p39=>k_is)
      (case k_p39=>k_is)
      (case a_p35=>k_is)
      (case l_p35=>k_is)
      (case c_p35=>k_is)
      (case k_p35=>k_is)
      (case a_p36=>k_is)
      (case l_p36=>k_is)
      (case c_p36=>k_is)
      (case k_p36=>k_is)
      (case a_p50=>k_is)
      (case l_p50=>k_is)
      (case c_p50=>k_is)
      (case k_p50=>k_is)
      (case a_p37=>k_is)
      (case l_p37=>k_is)
      (case c_p37=>k_is)
      (case k_p37=>k_is)
      (case a_p48=>k_is)
      (case l_p48=>k_is)
      (case c_p48=>k_is)
      (case k_p48=>k_is)
      (case a_p46=>k_is)
      (case l_p46=>k_is)
      (case c_p46=>k_is)
      (case k_p46=>k_is)
      (case a_p45=>k_is)
      (case l_p45=>k_is)
      (case c_p45=>k_is)
      (case k_p45=>k_is)
      (case a_p44=>k_is)
      (case l_p44=>k_is)
      (case c_p44=>k_is)
      (case k_p44=>k_is)
      (case a_p49=>k_is)
      (case l_p49=>k_is)
      (case c_p49=>k_is)
      (case k_p49=>k_is)
      (case a_p33=>k_is)
      (case l_p33=>k_is)
      (case c_p33=>k_is)
      (case k_p33=>k_is)
      (case a_p28=>k_is)
      (case l_p28=>k_is)
      (case c_p28=>k_is)
      (case k_p28=>k_is)
      (case a_p26=>k_is)
      (case l_p26=>k_is)
      (case c_p26=>k_is)
      (case k_p26=>k_is)
      (case a_p24=>k_is)
      (case l_p24=>k_is)
      (case c_p24=>k_is)
      (case k_p24=>k_is)
      (case a_p0=>k_is)
      (case i_p0=>k_is)
      (case l_p0=>k_is)
      (case c_p0=>k_is)
      (case k_p0=>k_is)
      (case a_p3=>k_is)
      (case i_p3=>k_is)
      (case l_p3=>k_is)
      (case c_p3=>k_is)
      (case k_p3=>k_is)
      (case a_p2=>k_is)
      (case i_p2=>k_is)
      (case l_p2=>k_is)
      (case c_p2=>k_is)
      (case k_p2=>k_is)
      (case a_p5=>k_is)
      (case i_p5=>k_is)
      (case l_p5=>k_is)
      (case c_p5=>k_is)
      (case k_p5=>k_is)
      (case a_p8=>k_is)
      (case i_p8=>k_is)
      (case l_p8=>k_is)
      (case c_p8=>k_is)
      (case k_p8=>k_is)
      (case a_p6=>k_is)
      (case i_p6=>k_is)
      (case l_p6=>k_is)
      (case c_p6=>k_is)
      (case k_p6=>k_is)
      (case a_p9=>k_is)
      (case i_p9=>k_is)
      (case l_p9=>k_is)
      (case c_p9=>k_is)
      (case k_p9=>k_is)
      (case a_p1=>k_is)
      (case i_p1=>k_is)
      (case l_p1=>k_is)
      (case c_p1=>k_is)
      (case k_p1=>k_is)
      (case a_p4=>k_is)
      (case i_p4=>k_is)
      (case l_p4=>k_is)
      (case c_p4=>k_is)
      (case k_p4=>k_is)
      (case a_p7=>k_is)
      (case i_p7=>k_is)
      (case l_p7=>k_is)
      (case c_p7=>k_is)
      (case k_p7=>k_is)
      (case a_draw=>k_is)
      (case l_draw=>k_is)
      (case c_draw=>k_is)
      (case k_draw=>k_is)
      (case a_size=>k_is)
      (case l_size=>k_is)
      (case c_size=>k_is)
      (case k_size=>k_is)
      (case a_whole=>k_is)
      (case l_whole=>k_is)
      (case c_whole=>k_is)
      (case k_whole=>k_is)
      (case a_mark=>k_is)
      (case l_mark=>k_is)
      (case c_mark=>k_is)
      (case k_mark=>k_is)
      (case a_some=>k_is)
      (case l_some=>k_is)
      (case c_some=>k_is)
      (case k_some=>k_is)
      (case a_between=>k_is)
      (case l_between=>k_is)
      (case c_between=>k_is)
      (case k_between=>k_is)
      (case a_rows=>k_is)
      (case l_rows=>k_is)
      (case c_rows=>k_is)
      (case k_rows=>k_is)
      (case a_shown=>k_is)
      (case l_shown=>k_is)
      (case c_shown=>k_is)
      (case k_shown=>k_is)
      (case a_state=>k_is)
      (case l_state=>k_is)
      (case c_state=>k_is)
      (case k_state=>k_is)
      (case a_put=>k_is)
      (case l_put=>k_is)
      (case c_put=>k_is)
      (case k_put=>k_is)
      (case a_thing=>k_is)
      (case l_thing=>k_is)
      (case c_thing=>k_is)
      (case k_thing=>k_is)
      (case a_is_told=>k_is)
      (case l_is_told=>k_is)
      (case c_is_told=>k_is)
      (case k_is_told=>k_is)
      (case a_deed=>k_is)
      (case l_deed=>k_is)
      (case c_deed=>k_is)
      (case k_deed=>k_is)
      (case a_law=>k_is)
      (case l_law=>k_is)
      (case c_law=>k_is)
      (case k_law=>k_is)
      (case ac_NoHand=>k_is)
      (case xc_NoHand=>k_exc)
      (case ac_NoLetters=>k_is)
      (case xc_NoLetters=>k_exc)
      (case ac_NoPlace=>k_is)
      (case xc_NoPlace=>k_exc)
      (case ac_NoRoom=>k_is)
      (case xc_NoRoom=>k_exc)
      (case ac_NoThing=>k_is)
      (case xc_NoThing=>k_exc)
      (case q_SMALL=>k_is)
      (case q_THING_SIGNS=>k_is)
      (case q_LONGEST_THING=>k_is)
      (case z_all=>k_is)
      (case z_dict=>k_is)
      (case z_int=>k_is)
      (case z_isinstance=>k_is)
      (case z_len=>k_is)
      (case z_list=>k_is)
      (case z_min=>k_is)
      (case z_range=>k_is)
      (case z_sorted=>k_is)
      (case z_tuple=>k_is)
    obtain ⟨a,T,hl,hb⟩:=M
    have e0:=hmg.symm.trans hl
    cases e0
    exact ⟨_,hb,fun base _ _=>K60.ok_law T⟩
