import PyProof.Rows.All
import Wide.All
import OpenK.AllK
import Wide.FinOn
import Lean
import PyProof.EqAt
import PyProof.EqKinds
import PyProof.TupleCall
import KE.IntBitsLaws
import PyProof.Rows.CallKwBuiltin
import KE.KRevIter
import KE.KDictSum
import PyProof.Rows.SetFrom
import PyProof.DictStraight
import PyProof.FactsAll.set_1
import PyProof.DictIter
import PyProof.DictWalks
import PyProof.FactsAll.set_2
import PyProof.AttrMissHeap
import KE.KDictOf
import KE.KSortTup
import KE.KItemsList
import PyProof.LongRange
import PyProof.Rows.FStr
import PyProof.Rows.StrNews
import PyProof.StrLawsTight
import PyProof.StrLawsChain
import KE.KIntText
import PySem.Challenge.RW_shelfmark_k65_read_states_laid
set_option Elab.async false
set_option linter.all false
set_option maxRecDepth 100000
set_option maxHeartbeats 4000000
namespace L2
open PySem PySem.Spec PyProof.Rows
inductive Key where
  | inl (i:Int) | inr (x:Str) | non
deriving DecidableEq
def isNon:Value→Bool
  | .none=>true
  | _=>false
def keyIs:Key→Value→Bool
  | .inl k,v=>Value.isInt k v
  | .inr x,v=>Value.isStrOf x v
  | .non,v=>isNon v
def keyH (w:World):Key→Int
  | .inl k=>hashInt k
  | .inr x=>hashStr w x
  | .non=>(reduceHash 4238894112)
theorem keyIs_shape:∀ {k:Key} {v:Value},keyIs k v = true→(∃ i t,k = Key.inl i∧v = Value.int i t) ∨ (∃ x t,k = Key.inr x∧v = Value.str x t) ∨ (k = Key.non∧v = Value.none)
  | .inl i,v,h=>by
    obtain ⟨t,e⟩:=Value.isInt_shape (k:=i) (v:=v) h
    exact .inl ⟨i,t,rfl,e⟩
  | .inr x,v,h=>by
    obtain ⟨t,e⟩:=Value.isStrOf_shape (x:=x) (v:=v) h
    exact .inr (.inl ⟨x,t,rfl,e⟩)
  | .non,v,h=>by
    cases v <;> first | exact .inr (.inr ⟨rfl,rfl⟩) | exact nomatch (show false = true from h)
theorem keyIs_int (i:Int) (t:Tok):keyIs (.inl i) (.int i t) = true:=by simp [keyIs,Value.isInt]
theorem keyIs_str (x:Str) (t:Tok):keyIs (.inr x) (.str x t) = true:=by simp [keyIs,Value.isStrOf]
theorem key_ll (a b:Int):decide (Key.inl a = Key.inl b) = (a == b):=by
  by_cases e:a = b
  · subst e; simp
  · rw [decide_eq_false (fun q=>e (Key.inl.inj q))]; exact (beq_eq_false_iff_ne.mpr e).symm
theorem key_rr (a b:Str):decide (Key.inr a = Key.inr b) = decide (a = b):=by
  by_cases e:a = b
  · subst e; simp
  · rw [decide_eq_false (fun q=>e (Key.inr.inj q)),decide_eq_false e]
theorem hash_non {prog:Program} {w:World} {A:Around} {E:Value→Shared→Prop} {s:Shared} {Q:Int→Shared→Prop} (h:Q (reduceHash 4238894112) { s with toks:=s.toks + 1 }):wpAny (model prog w) A (pyHash .none) Q E s:=
  W.pyHash_slot (T:="NoneType") rfl F.slot_NoneType_hash F.entry_NoneType_hash (F.args_NoneType_hash_1 _) (beq_builtin_none _) (.inl rfl) (wpAny_bind (wpAny_pure (wpAny_bind (wpAny_mkInt (wpAny_pure ⟨_,_,rfl,h⟩)))))
theorem eq_non {prog:Program} {w:World} {A:Around} {E:Value→Shared→Prop} {s:Shared} {Q:Bool→Shared→Prop} (h:Q true s):wpAny (model prog w) A (eqBool .none .none) Q E s:=by
  unfold eqBool
  refine wpAny_holding ?_
  rw [if_pos (by decide)]
  exact wpAny_bind (wpAny_rule (wpAny_pure h))
def mixKind (prog:Program) (w:World):PySem.KeyKind prog w Key where
  is:=keyIs
  hash:=keyH w
  inj:=fun v a b ha hb=>by
    rcases keyIs_shape ha with ⟨i,t,rfl,rfl⟩ | ⟨x,t,rfl,rfl⟩ | ⟨rfl,rfl⟩ <;> rcases keyIs_shape hb with ⟨j,u,rfl,e⟩ | ⟨y,u,rfl,e⟩ | ⟨rfl,e⟩ <;>
      first | (cases e; rfl) | cases e
  byValue:=fun k v h=>by
    rcases keyIs_shape h with ⟨i,t,rfl,rfl⟩ | ⟨x,t,rfl,rfl⟩ | ⟨rfl,rfl⟩ <;> rfl
  pyHash:=fun hv h=>by
    rcases keyIs_shape hv with ⟨i,t,rfl,rfl⟩ | ⟨x,t,rfl,rfl⟩ | ⟨rfl,rfl⟩
    · exact wpAny_pyHash_int h
    · exact wpAny_pyHash_str h
    · exact hash_non h
  eqBool:=fun hu hv h=>by
    rcases keyIs_shape hu with ⟨i,t,rfl,rfl⟩ | ⟨x,t,rfl,rfl⟩ | ⟨rfl,rfl⟩ <;> rcases keyIs_shape hv with ⟨j,u,rfl,rfl⟩ | ⟨y,u,rfl,rfl⟩ | ⟨rfl,rfl⟩
    · rw [key_ll] at h; exact wpAny_eqBool_int h
    · exact SeqAt.EqAt.int_str i t y u _ _ _ _ h
    · exact SeqAt.EqAt.int_none i t _ _ _ _ h
    · exact SeqAt.EqAt.str_int x t j u _ _ _ _ h
    · rw [key_rr] at h; exact wpAny_eqBool_str h
    · exact SeqAt.EqAt.str_none x t _ _ _ _ h
    · exact SeqAt.EqAt.none_int j u _ _ _ _ h
    · exact SeqAt.EqAt.none_str y u _ _ _ _ h
    · exact eq_non h
  «strs»:=fun k x t v h=>by
    rcases keyIs_shape h with ⟨i,u,rfl,e⟩ | ⟨y,u,rfl,e⟩ | ⟨rfl,e⟩
    · exact nomatch e
    · injection e with e1 _
      subst e1
      cases v <;> rfl
    · exact nomatch e
theorem mixKind_int (prog:Program) (w:World) (i:Int) (t:Tok):(mixKind prog w).is (.inl i) (.int i t) = true:=keyIs_int i t
theorem mixKind_str (prog:Program) (w:World) (x:Str) (t:Tok):(mixKind prog w).is (.inr x) (.str x t) = true:=keyIs_str x t
inductive V where
  | non | bl (b:Bool) | int (i:Int) | str (x:Str) | byt (b:Array UInt8) | flt (b:UInt64) | ref (a:Addr) | ty (n:String)
  deriving DecidableEq
def RelV:V→Value→Prop
  | .non,u=>u = Value.none
  | .bl b,u=>u = Value.bool b
  | .int i,u=>∃ t,u = Value.int i t
  | .str x,u=>∃ t,u = Value.str x t
  | .byt b,u=>∃ t,u = Value.bytes b t
  | .flt b,u=>∃ t,u = Value.float b t
  | .ref a,u=>u = Value.ref a
  | .ty n,u=>u = Value.type n
abbrev Vals:List V→List Value→Prop:=Paired RelV
theorem Vals.length {xs:List V} {us:List Value} (r:Vals xs us):xs.length = us.length:=Paired.length r
theorem Vals.get:∀ {xs:List V} {us:List Value} {i:Nat} {x:V},Vals xs us→xs[i]? = some x→∃ u,us[i]? = some u∧RelV x u
  | _,_,_,_,.nil,e=>by simp at e
  | _,_,0,_,.cons r _,e=>by simp at e; subst e; exact ⟨_,rfl,r⟩
  | _,_,i + 1,x,.cons _ t,e=>by
    obtain ⟨u,h1,h2⟩:=Vals.get (i:=i) (x:=x) t (by simpa using e)
    exact ⟨u,by simpa using h1,h2⟩
theorem Vals.append:∀ {xs ys:List V} {us ws:List Value},Vals xs us→Vals ys ws→Vals (xs ++ ys) (us ++ ws)
  | _,_,_,_,.nil,s=>s
  | _,_,_,_,.cons r t,s=>.cons r (Vals.append t s)
theorem Vals.take:∀ {xs:List V} {us:List Value} (n:Nat),Vals xs us→Vals (xs.take n) (us.take n)
  | _,_,0,_=>.nil
  | _,_,_ + 1,.nil=>.nil
  | _,_,n + 1,.cons r t=>.cons r (Vals.take n t)
theorem Vals.drop:∀ {xs:List V} {us:List Value} (n:Nat),Vals xs us→Vals (xs.drop n) (us.drop n)
  | _,_,0,r=>r
  | _,_,_ + 1,.nil=>.nil
  | _,_,n + 1,.cons _ t=>Vals.drop n t
def RelO:Option V→Option Value→Prop
  | some v,some u=>RelV v u
  | none,none=>True
  | _,_=>False
def KV {κ:Type}:List (κ × V)→List (κ × Value)→Prop:=Paired fun (p:κ × V) (q:κ × Value)=>p.1 = q.1∧RelV p.2 q.2
def kV:Key→V
  | .inl i=>.int i
  | .inr x=>.str x
  | .non=>.non
inductive HO where
  /-- a list -/
  | lst (xs:List V)
  /-- a tuple (never changes) -/
  | tup (xs:List V)
  /-- a dict whose keys are ints and texts; one whose keys are tuples of ints and texts (the empty one is both) -/
  | dK (kvs:List (Key × V)) | dT (kvs:List (List Key × V))
  /-- a set of ints: its members,its size -/
  | set (S:Int→Bool) (n:Nat)
  /-- an instance of the class at C,its dict at dx,its attributes -/
  | ins (C dx:Addr) (fs:List (Str × V))
  /-- the dict of the instance at x -/
  | own (x:Addr)
  /-- the dict of an exception -/
  | xd (fs:List (Str × V))
  /-- a bound method,f of x -/
  | met (f x:Addr)
  /-- a range object lo,lo + 1,.. below hi -/
  | rng (lo hi:Int)
  /-- a thing that is known to the object (the script; a dict while a loop walks it): read,never written while it is so -/
  | frz (o:Obj) (u:HO)
  /-- a code object's table -/
  | tbl (ps:Array Value)
  /-- any other thing,by what is true of its one object (a def of one's own: SetO a S n:=HO.ext fun h=>..) -/
  | ext (φ:Heap→Prop)
abbrev Hp:=Addr→Option HO
def upd (H:Hp) (a:Addr) (o:HO):Hp:=fun b=>if b = a then some o else H b
theorem upd_same {H:Hp} {a:Addr} {o:HO}:upd H a o a = some o:=by unfold upd; rw [if_pos rfl]
theorem upd_ne {H:Hp} {a b:Addr} {o:HO} (h:b ≠ a):upd H a o b = H b:=by unfold upd; rw [if_neg h]
theorem ne_of {H:Hp} {a b:Addr} {o u:HO} (h:H a = some o) (h':H b = some u) (d:o ≠ u):a ≠ b:=by
  intro e; subst e; rw [h] at h'; exact d (Option.some.inj h')
theorem ne_of_none {H:Hp} {a b:Addr} {o:HO} (h:H a = some o) (h':H b = none):a ≠ b:=by
  intro e; subst e; rw [h] at h'; cases h'
section
variable (P:Program) (w:World)
def ObjOk (H:Hp) (h:Heap) (a:Addr):HO→Prop
  | .lst xs=>xs.length ≤ sizeLine∧∃ (its:List Value) (n:Nat),Vals xs its∧h.get? a = some { cls:=.type "list",data:=.seq its.toArray n }
  | .tup xs=>xs.length ≤ sizeLine∧∃ its:List Value,Vals xs its∧IsTup h a its.toArray
  | .dK kvs=>kvs.length ≤ sizeLine∧(a == sysModules) = false∧∃ vs,KV kvs vs∧h.DictOf (mixKind P w) a vs
  | .dT kvs=>kvs.length ≤ sizeLine∧(a == sysModules) = false∧∃ xs:List (List Key × Addr × Value),
      Paired (fun (p:List Key × V) (q:List Key × Addr × Value)=>p.1 = q.1∧H q.2.1 = some (.tup (p.1.map kV))∧RelV p.2 q.2.2) kvs xs∧
      ∃ o es ep,h.get? a = some o∧o.ExactDict∧o.data = .dict es ep∧es.toList = xs.map (entryOfKey (tupleKind (mixKind P w)))∧(xs.map (·.1)).Nodup
  | .set S n=>h.SetOf (intKind P w) a S n
  | .ins C dx fs=>H dx = some (.own a)∧fs.length ≤ 1000∧dx ≠ a∧h.get? a = some (PySem.W.instObj C dx)∧
      ∃ mA,h.Ns1 dx mA∧(∀ f,RelO (fs.lookup f) (mA f))∧PySem.Within mA (fs.map (·.1))
  | .own _=>∃ o,h.get? a = some o
  | .xd fs=>∃ mA,h.Ns1 a mA∧∀ f,RelO (fs.lookup f) (mA f)
  | .rng lo hi=>∃ t u v,h.get? a = some { cls:=.type "range",data:=.fields #[.int lo t,.int hi u,.int 1 v] }
  | .frz o u=>h.get? a = some o∧ObjOk H h a u
  | .tbl ps=>h.get? a = some { cls:=.none,data:=.fields ps }
  | .met f x=>h.get? a = some (PySem.W.methodObj (.ref f) (.ref x))
  | .ext φ=>φ h∧(∃ o,h.get? a = some o)∧∀ h1 h2:Heap,φ h1→(∀ o,h1.get? a = some o→h2.get? a = some o)→φ h2
def HOk (H:Hp) (h:Heap):Prop:=∀ a o,H a = some o→ObjOk P w H h a o
end
section
variable {P:Program} {w:World} {H H':Hp} {h h':Heap} {a:Addr} {o:HO}
theorem ObjOk.lt (x:ObjOk P w H h a o):a < h.objs.size:=by
  cases o with
  | lst xs=>obtain ⟨_,_,_,_,e⟩:=x; exact Heap.lt_size e
  | tup xs=>obtain ⟨_,_,_,p⟩:=x; exact p.lt
  | dK kvs=>obtain ⟨_,_,_,_,o,_,_,e,_⟩:=x; exact Heap.lt_size e
  | dT kvs=>obtain ⟨_,_,_,_,o,_,_,e,_⟩:=x; exact Heap.lt_size e
  | set S n=>obtain ⟨o,_,_,_,e,_⟩:=x; exact Heap.lt_size e
  | ins C dx fs=>obtain ⟨_,_,_,e,_⟩:=x; exact Heap.lt_size e
  | own y=>obtain ⟨_,e⟩:=x; exact Heap.lt_size e
  | xd fs=>obtain ⟨_,⟨_,_,_,e,_⟩,_⟩:=x; exact Heap.lt_size e
  | rng lo hi=>obtain ⟨_,_,_,e⟩:=x; exact Heap.lt_size e
  | frz ob u=>obtain ⟨e,_⟩:=x; exact Heap.lt_size e
  | tbl ps=>exact Heap.lt_size (show h.get? a = some _ from x)
  | met f y=>exact Heap.lt_size (show h.get? a = some _ from x)
  | ext φ=>obtain ⟨_,⟨_,e⟩,_⟩:=x; exact Heap.lt_size e
theorem Paired.mapP {α β:Type} {F G:α→β→Prop}:∀ {l₁:List α} {l₂:List β},Paired F l₁ l₂→(∀ a b,F a b→G a b)→Paired G l₁ l₂
  | _,_,.nil,_=>.nil
  | _,_,.cons r t,f=>.cons (f _ _ r) (Paired.mapP t f)
theorem ObjOk.stay (x:ObjOk P w H h a o) (k:∀ b u,(b = a ∨ H b = some (.own a))→h.get? b = some u→h'.get? b = some u)
    (ho:∀ b,H b = some (.own a)→H' b = some (.own a)) (ht:∀ b xs,H b = some (.tup xs)→H' b = some (.tup xs)):ObjOk P w H' h' a o:=by
  induction o with
  | lst xs=>obtain ⟨z,its,n,r,e⟩:=x; exact ⟨z,its,n,r,k _ _ (.inl rfl) e⟩
  | tup xs=>obtain ⟨z,its,r,ob,e,c⟩:=x; exact ⟨z,its,r,ob,k _ _ (.inl rfl) e,c⟩
  | dK kvs=>obtain ⟨z,y,vs,r,ob,es,ep,e,c⟩:=x; exact ⟨z,y,vs,r,ob,es,ep,k _ _ (.inl rfl) e,c⟩
  | dT kvs=>
    obtain ⟨z,y,xs,r,ob,es,ep,e,c⟩:=x
    exact ⟨z,y,xs,Paired.mapP r fun p q z=>⟨z.1,ht _ _ z.2.1,z.2.2⟩,ob,es,ep,k _ _ (.inl rfl) e,c⟩
  | set S n=>obtain ⟨ob,es,ep,t,e,c⟩:=x; exact ⟨ob,es,ep,t,k _ _ (.inl rfl) e,c⟩
  | ins C dx fs=>
    obtain ⟨d,z,ne,e,mA,⟨od,es,ep,e2,c⟩,r⟩:=x
    exact ⟨ho _ d,z,ne,k _ _ (.inl rfl) e,mA,⟨od,es,ep,k _ _ (.inr d) e2,c⟩,r⟩
  | own y=>obtain ⟨ob,e⟩:=x; exact ⟨ob,k _ _ (.inl rfl) e⟩
  | xd fs=>obtain ⟨mA,⟨od,es,ep,e,c⟩,r⟩:=x; exact ⟨mA,⟨od,es,ep,k _ _ (.inl rfl) e,c⟩,r⟩
  | rng lo hi=>obtain ⟨t,u,v,e⟩:=x; exact ⟨t,u,v,k _ _ (.inl rfl) e⟩
  | frz ob u ih=>obtain ⟨e,q⟩:=x; exact ⟨k _ _ (.inl rfl) e,ih q⟩
  | tbl ps=>
    have e:h.get? a = some { cls:=.none,data:=.fields ps }:=x
    show h'.get? a = some { cls:=.none,data:=.fields ps }
    exact k a _ (.inl rfl) e
  | met f y=>
    have e:h.get? a = some (PySem.W.methodObj (.ref f) (.ref y)):=x
    show h'.get? a = some (PySem.W.methodObj (.ref f) (.ref y))
    exact k a _ (.inl rfl) e
  | ext φ=>obtain ⟨p,⟨o,e⟩,st⟩:=x; exact ⟨st _ _ p fun o q=>k _ _ (.inl rfl) q,⟨o,k _ _ (.inl rfl) e⟩,st⟩
theorem HOk.lt (x:HOk P w H h) (e:H a = some o):a < h.objs.size:=(x a o e).lt
theorem HOk.fresh (x:HOk P w H h) (e:h.objs.size ≤ a):H a = none:=by
  cases q:H a with
  | none=>rfl
  | some u=>exact absurd (Nat.lt_of_lt_of_le (x.lt q) e) (Nat.lt_irrefl _)
theorem HOk.kept (x:HOk P w H h) (k:∀ b u,h.get? b = some u→h'.get? b = some u):HOk P w H h':=fun a o e=>
  (x a o e).stay (fun b u _ q=>k b u q) (fun _ q=>q) fun _ _ q=>q
theorem HOk.laid (x:HOk P w H h) (k:∀ b u,h.get? b = some u→h'.get? b = some u) (hp:h.objs.size ≤ a) (new:ObjOk P w (upd H a o) h' a o):HOk P w (upd H a o) h':=fun b u e=>by
  have hn:=x.fresh hp
  by_cases hb:b = a
  · subst hb; rw [upd_same] at e; cases e; exact new
  · rw [upd_ne hb] at e
    exact (x b u e).stay (fun c v _ q=>k c v q) (fun c q=>by rw [upd_ne (ne_of_none q hn)]; exact q) fun c xs q=>by rw [upd_ne (ne_of_none q hn)]; exact q
end
def Rd (H:Hp) (a:Addr) (u:HO):Prop:=H a = some u ∨ ∃ o,H a = some (.frz o u)
theorem Rd.ok {P:Program} {w:World} {H:Hp} {h:Heap} {a:Addr} {u:HO} (r:Rd H a u) (x:HOk P w H h):ObjOk P w H h a u:=by
  rcases r with r | ⟨o,r⟩
  · exact x a u r
  · obtain ⟨_,q⟩:=x a _ r
    exact q
def Mut:Option HO→Prop
  | some (.lst _)=>True
  | some (.dK _)=>True
  | some (.dT _)=>True
  | some (.set _ _)=>True
  | some (.ins _ _ _)=>True
  | some (.ext _)=>True
  | _=>False
section
variable {P:Program} {w:World} {H:Hp} {h h':Heap} {x e:Addr} {o':HO}
theorem HOk.write (ok:HOk P w H h) (mu:Mut (H x)) (he:e = x ∨ H e = some (.own x)) (k:∀ b u,b ≠ e→h.get? b = some u→h'.get? b = some u) (heo:∃ u,h'.get? e = some u)
    (new:ObjOk P w (upd H x o') h' x o'):HOk P w (upd H x o') h':=fun b u q=>by
  have nown:∀ c y,H c = some (.own y)→c ≠ x:=fun c y r z=>by subst z; rw [r] at mu; exact mu
  have ntup:∀ c xs,H c = some (.tup xs)→c ≠ x:=fun c xs r z=>by subst z; rw [r] at mu; exact mu
  by_cases hb:b = x
  · subst hb; rw [upd_same] at q; cases q; exact new
  · rw [upd_ne hb] at q
    by_cases hbe:b = e
    · have q':H b = some (.own x):=by
        rcases he with z | z
        · exact absurd (hbe.trans z) hb
        · rw [hbe]; exact z
      rw [q] at q'; cases q'
      obtain ⟨v,hv⟩:=heo
      exact ⟨v,by rw [hbe]; exact hv⟩
    · refine (ok b u q).stay (fun c v hc r=>k c v ?_ r) (fun c r=>by rw [upd_ne (nown c b r)]; exact r) fun c xs r=>by rw [upd_ne (ntup c xs r)]; exact r
      rcases hc with rfl | hc
      · exact hbe
      · rintro rfl
        rcases he with z | z
        · exact nown c b hc z
        · rw [hc] at z; cases z; exact hb rfl
end
structure Un (fs ex:List Addr) (H H':Hp) (h h':Heap):Prop where
  keep:∀ b o,h.get? b = some o→H b = none→b ∉ fs→b ∉ ex→h'.get? b = some o
  slot:∀ b o,h.get? b = some o→H b = none→b ∈ fs→b ∉ ex→∃ sl,h'.get? b = some { o with slots:=sl }
  free:∀ b o,h.get? b = some o→H b = none→b ∉ ex→H' b = none
  there:∀ b o,h.get? b = some o→b ∉ ex→∃ o',h'.get? b = some o'
  tups:∀ b xs,H b = some (.tup xs)→H' b = some (.tup xs)
  frzs:∀ b o u,H b = some (.frz o u)→H' b = some (.frz o u)
  tbls:∀ b ps,H b = some (.tbl ps)→∃ more,H' b = some (.tbl (ps ++ more))
section
variable {fs fs' ex ex':List Addr} {H H1 H2:Hp} {h h1 h2 h':Heap} {a x e:Addr} {o:HO}
theorem Un.any (u:Un fs ex H H1 h h1) {b:Addr} {ob:Obj} (q:h.get? b = some ob) (n:H b = none) (hx:b ∉ ex):∃ sl,h1.get? b = some { ob with slots:=sl }:=by
  by_cases hb:b ∈ fs
  · exact u.slot b ob q n hb hx
  · exact ⟨ob.slots,u.keep b ob q n hb hx⟩
theorem Un.kept (k:∀ b u,h.get? b = some u→h'.get? b = some u):Un fs ex H H h h':=
  ⟨fun b ob q _ _ _=>k b ob q,fun b ob q _ _ _=>⟨ob.slots,k b ob q⟩,fun _ _ _ n _=>n,fun b ob q _=>⟨ob,k b ob q⟩,fun _ _ q=>q,fun _ _ _ q=>q,fun _ ps q=>⟨#[],by rw [q]; simp⟩⟩
theorem Un.refl:Un fs ex H H h h:=Un.kept fun _ _ q=>q
theorem Un.laid (k:∀ b u,h.get? b = some u→h'.get? b = some u) (hp:h.objs.size ≤ a) (hn:H a = none):Un fs ex H (upd H a o) h h' where
  keep:=fun b u q _ _ _=>k b u q
  slot:=fun b u q _ _ _=>⟨u.slots,k b u q⟩
  free:=fun b u q n _=>by rw [upd_ne (Nat.ne_of_lt (Nat.lt_of_lt_of_le (Heap.lt_size q) hp))]; exact n
  there:=fun b u q _=>⟨u,k b u q⟩
  tups:=fun b xs q=>by rw [upd_ne (ne_of_none q hn)]; exact q
  frzs:=fun b u xs q=>by rw [upd_ne (ne_of_none q hn)]; exact q
  tbls:=fun b ps q=>⟨#[],by rw [upd_ne (ne_of_none q hn),q]; simp⟩
theorem Un.write (mu:Mut (H x)) (he:e = x ∨ H e = some (.own x)) (k:∀ b u,b ≠ e→h.get? b = some u→h'.get? b = some u) (heo:∃ u,h'.get? e = some u):Un fs ex H (upd H x o) h h':=by
  have hx:∀ b,H b = none→b ≠ x:=fun b n z=>by subst z; rw [n] at mu; exact mu
  have hb:∀ b,H b = none→b ≠ e:=fun b n z=>by
    subst z
    rcases he with r | r
    · exact hx b n r
    · rw [n] at r; cases r
  have hm:∀ b u,H b = some u→¬ Mut (some u)→b ≠ x:=fun b u q nm z=>by subst z; rw [q] at mu; exact nm mu
  refine ⟨fun b u q n _ _=>k b u (hb b n) q,fun b u q n _ _=>⟨u.slots,k b u (hb b n) q⟩,fun b u q n _=>by rw [upd_ne (hx b n)]; exact n,fun b u q _=>?_,
    fun b xs q=>by rw [upd_ne (hm b _ q fun z=>z)]; exact q,fun b u xs q=>by rw [upd_ne (hm b _ q fun z=>z)]; exact q,fun b ps q=>⟨#[],by rw [upd_ne (hm b _ q fun z=>z),q]; simp⟩⟩
  by_cases hbe:b = e
  · subst hbe; exact heo
  · exact ⟨u,k b u hbe q⟩
end
def trk (h:Heap) (H:Hp):List Addr:=(List.range h.objs.size).filter fun a=>(H a).isSome
def hidT (h:Heap) (H:Hp):Heap:=PySem.W.hideAll h (trk h H)
theorem hidT_size (h:Heap) (H:Hp):(hidT h H).objs.size = h.objs.size:=PySem.W.hideAll_size _ _
theorem hidT_get {h:Heap} {H:Hp} {b:Addr} {o:Obj} (e:h.get? b = some o) (n:H b = none):(hidT h H).get? b = some o:=
  PySem.W.hideAll_get _ e fun hm=>by
    have q:(H b).isSome = true:=(List.mem_filter.mp hm).2
    rw [n] at q; simp at q
theorem of_hidT {h:Heap} {H:Hp} {b:Addr} {o:Obj} (e:(hidT h H).get? b = some o):h.get? b = some o∧H b = none:=by
  have e':h.get? b = some o:=PySem.W.of_hideAll (trk h H) e
  refine ⟨e',?_⟩
  cases q:H b with
  | none=>rfl
  | some x=>
    have hm:b ∈ trk h H:=List.mem_filter.mpr ⟨List.mem_range.mpr (Heap.lt_size e'),by simp [q]⟩
    have z:(hidT h H).get? b = none:=PySem.W.hideAll_none (trk h H) hm
    rw [z] at e; cases e
structure Mod (K:PySem.W.Frag) (mg:Str→Option Value) (base:Heap):Prop where
  kin:K.In base
  glob:base.Ns mainGlobals mg
  blt:∃ mb,base.Ns builtinsNs mb∧∀ x:Str,x ≠ "__name__"→mb x = bootBuiltins x
  nolimit:base.NoLimit
structure Cx where
  prog:Program
  w:World
  K:PySem.W.Frag
  mg:Str→Option Value
  base:Heap
  A:Around
  N:List Str
  s₀:Shared
  H₀:Hp
  env:Env
  outer:List Env
  stack:List Env
  ex:List Addr
  fn:Str→Bool
  calm:Bool
  pn:List (Addr × Obj)
  xe:Value→Shared→Prop
def frs (l:List Env):List Addr:=l.filterMap (·.frame)
abbrev Cx.fs (X:Cx):List Addr:=frs X.outer
def Vis (sc:Scope) (x:Str):Prop:=sc.names.lookup x = some .local ∨ sc.names.lookup x = some .cell ∨ sc.names.lookup x = some .free
def Loc (sc:Scope) (x:Str):Prop:=sc.names.lookup x = some .local ∨ sc.names.lookup x = some .cell
def Look (env:Env) (h:Heap) (m:Str→Option Value) (x:Str) (u:Value):Prop:=
  (env.kindOf x = some .local∧m x = some u) ∨ ((env.kindOf x = some .cell ∨ env.kindOf x = some .free)∧∃ c,env.cells.lookup x = some c∧h.IsCell c (some u))
structure Cx.Ok (X:Cx):Prop where
  mod:Mod X.K X.mg X.base
  kind:X.env.scope.kind = .function
  glob:X.env.globals = mainGlobals
  blt:X.env.builtins = builtinsNs
  above:X.s₀.heap.objs.size ≤ X.env.locals
  inj:∀ x y c,X.env.cells.lookup x = some c→X.env.cells.lookup y = some c→x = y
  has:∀ x,(X.env.kindOf x = some .cell ∨ X.env.kindOf x = some .free)→∃ c,X.env.cells.lookup x = some c
  cab:∀ x c,X.fn x = true→X.env.cells.lookup x = some c→X.s₀.heap.objs.size ≤ c
  hd:X.calm = true→X.A.handled = none
  frames:X.A.frames = some X.stack
  stk:X.stack = X.outer ∨ (X.stack = X.env :: X.outer∧X.env.frame = some X.env.locals)
  exf:∀ b ∈ X.ex,b ≠ X.env.locals∧∀ x c,X.env.cells.lookup x = some c→c ≠ b
  bs:∀ b o,X.base.get? b = some o→X.s₀.heap.get? b = some o∧X.H₀ b = none
  bsz:X.base.objs.size ≤ X.s₀.heap.objs.size
  noex:∀ b o,X.base.get? b = some o→b ∉ X.ex
  exfs:∀ b ∈ X.ex,b ∉ X.fs
  funs:X.s₀.heap.FunFrames X.base X.outer
  frf:∀ b ∈ X.fs,X.H₀ b = none
structure Inv (X:Cx) (pins:List (Addr × Obj)) (σ:List (Option V)) (H:Hp) (s:Shared):Prop where
  ok:X.Ok
  os:s.os = X.s₀.os
  bare:AllBare s.gens
  base:Un X.fs X.ex X.H₀ H X.s₀.heap s.heap
  loc:∃ m,s.heap.Ns X.env.locals m∧∀ (i:Nat) (x:Str) (v:V),X.N[i]? = some x→σ[i]? = some (some v)→Vis X.env.scope x→∃ u,RelV v u∧Look X.env s.heap m x u
  cell:∀ x c,X.env.cells.lookup x = some c→∃ v,s.heap.IsCell c v
  free:H X.env.locals = none
  freeC:∀ x c,X.env.cells.lookup x = some c→H c = none
  pin:∀ p ∈ X.pn ++ pins,s.heap.get? p.1 = some p.2∧H p.1 = none∧p.1 ≠ X.env.locals∧p.1 ∉ X.fs∧∀ v,p.2.data ≠ .cell v
  hok:HOk X.prog X.w H s.heap
  len:σ.length = X.N.length
section
variable {X:Cx} {pins:List (Addr × Obj)} {σ:List (Option V)} {H H':Hp} {s:Shared} {h':Heap}
theorem Cx.Ok.nofr (ok:X.Ok) {b:Addr} {o:Obj} (e:X.base.get? b = some o):b ∉ X.fs:=fun hb=>by
  have:=(ok.funs.mem hb).1
  rw [e] at this; cases this
theorem Inv.bs (I:Inv X pins σ H s):∀ b o,X.base.get? b = some o→s.heap.get? b = some o∧H b = none:=fun b o e=>
  ⟨I.base.keep b o (I.ok.bs b o e).1 (I.ok.bs b o e).2 (I.ok.nofr e) (I.ok.noex b o e),I.base.free b o (I.ok.bs b o e).1 (I.ok.bs b o e).2 (I.ok.noex b o e)⟩
theorem Inv.bk (I:Inv X pins σ H s):∀ b o,X.base.get? b = some o→s.heap.get? b = some o:=fun b o e=>(I.bs b o e).1
theorem Inv.mod (I:Inv X pins σ H s):Mod X.K X.mg X.base:=I.ok.mod
theorem Inv.kIn (I:Inv X pins σ H s):X.K.In s.heap:=I.ok.mod.kin.keeps I.bk
theorem Inv.lt (I:Inv X pins σ H s):X.env.locals < s.heap.objs.size:=let ⟨_,hn,_⟩:=I.loc; hn.lt
theorem Inv.sz (I:Inv X pins σ H s):X.s₀.heap.objs.size ≤ s.heap.objs.size:=Nat.le_trans I.ok.above (Nat.le_of_lt I.lt)
theorem Inv.nofs (I:Inv X pins σ H s) {a:Addr} (h:s.heap.objs.size ≤ a):a ∉ X.fs:=fun hb=>by
  obtain ⟨_,o,ho,_⟩:=I.ok.funs.mem hb
  exact absurd (Nat.lt_of_lt_of_le (Heap.lt_size ho) (Nat.le_trans I.sz h)) (Nat.lt_irrefl _)
theorem Inv.cne (I:Inv X pins σ H s):∀ x c,X.env.cells.lookup x = some c→c ≠ X.env.locals:=fun x c e z=>by
  obtain ⟨v,o,ho,hd⟩:=I.cell x c e
  obtain ⟨m,⟨o',es,ep,ho',hd',_⟩,_⟩:=I.loc
  rw [z,ho'] at ho; cases ho; rw [hd'] at hd; cases hd
theorem Inv.funs (I:Inv X pins σ H s):s.heap.FunFrames X.base X.outer:=by
  have all:∀ (l:List Env),(∀ b ∈ frs l,b ∈ X.fs)→X.s₀.heap.FunFrames X.base l→s.heap.FunFrames X.base l:=by
    intro l
    induction l with
    | nil=>intro _ _; trivial
    | cons env r ih=>
      intro hs hl
      obtain ⟨hk,⟨L,o,hf,hn,ho,hd⟩,hr⟩:=hl
      have hL:L ∈ X.fs:=hs L (by unfold frs; rw [List.filterMap_cons,hf]; exact List.mem_cons_self)
      obtain ⟨sl,e⟩:=I.base.slot L o ho (I.ok.frf L hL) hL fun z=>I.ok.exfs L z hL
      exact ⟨hk,⟨L,_,hf,hn,e,hd⟩,ih (fun b hb=>hs b (by unfold frs; rw [List.filterMap_cons,hf]; exact List.mem_cons_of_mem _ hb)) hr⟩
  exact all X.outer (fun _ hb=>hb) I.ok.funs
theorem Inv.stack (I:Inv X pins σ H s):s.heap.FunFrames X.base X.stack:=by
  rcases I.ok.stk with e | ⟨e,hf⟩
  · rw [e]; exact I.funs
  · rw [e]
    obtain ⟨m,hn,_⟩:=I.loc
    refine .cons (by rw [I.ok.kind]; decide) hf hn ?_ I.funs
    exact Heap.get?_none_of_le (Nat.le_trans I.ok.bsz I.ok.above)
theorem Inv.stkSub (I:Inv X pins σ H s):∀ b ∈ frs X.stack,b ∈ X.env.locals :: X.fs:=fun b hb=>by
  rcases I.ok.stk with e | ⟨e,hf⟩
  · rw [e] at hb; exact List.mem_cons_of_mem _ hb
  · rw [e] at hb
    unfold frs at hb
    rw [List.filterMap_cons,hf] at hb
    exact hb
theorem Inv.stkFree (I:Inv X pins σ H s):∀ b ∈ frs X.stack,H b = none:=fun b hb=>by
  rcases List.mem_cons.mp (I.stkSub b hb) with e | hb
  · rw [e]; exact I.free
  · obtain ⟨_,o,ho,_⟩:=I.ok.funs.mem hb
    exact I.base.free b o ho (I.ok.frf b hb) fun z=>I.ok.exfs b z hb
theorem Inv.step {g':Array GenState} {t':Nat} {d':Drawn} {ch:List Addr} (I:Inv X pins σ H s)
    (hch:∀ b ∈ ch,(b ∈ X.ex ∨ X.s₀.heap.objs.size ≤ b)∧b ≠ X.env.locals∧(∀ x c,X.env.cells.lookup x = some c→c ≠ b)∧∀ p ∈ X.pn ++ pins,p.1 ≠ b)
    (keep:∀ b o,b ≠ X.env.locals→b ∉ X.fs→b ∉ ch→s.heap.get? b = some o→H b = none→h'.get? b = some o)
    (slot:∀ b o,b ≠ X.env.locals→b ∈ X.fs→b ∉ ch→s.heap.get? b = some o→H b = none→∃ sl,h'.get? b = some { o with slots:=sl }) (free:∀ b o,b ∉ ch→s.heap.get? b = some o→H b = none→H' b = none)
    (there:∀ b o,b ∉ ch→s.heap.get? b = some o→∃ o',h'.get? b = some o')
    (tups:∀ b xs,H b = some (.tup xs)→H' b = some (.tup xs)) (frzs:∀ b o u,H b = some (.frz o u)→H' b = some (.frz o u)) (tbls:∀ b ps,H b = some (.tbl ps)→∃ more,H' b = some (.tbl (ps ++ more)))
    (ns:∀ m,s.heap.Ns X.env.locals m→h'.Ns X.env.locals m) (hok:HOk X.prog X.w H' h') (hg:AllBare g') :
    Inv X pins σ H' { s with heap:=h',gens:=g',drawn:=d',toks:=t' }:=by
  have neL:∀ b o,X.s₀.heap.get? b = some o→b ≠ X.env.locals:=fun b o e=>Nat.ne_of_lt (Nat.lt_of_lt_of_le (Heap.lt_size e) I.ok.above)
  have neC:∀ b o,X.s₀.heap.get? b = some o→b ∉ X.ex→b ∉ ch:=fun b o e hx hb=>by
    rcases (hch b hb).1 with z | z
    · exact hx z
    · exact absurd (Nat.lt_of_lt_of_le (Heap.lt_size e) z) (Nat.lt_irrefl _)
  have cellK:∀ x c,X.env.cells.lookup x = some c→∀ v,s.heap.IsCell c v→h'.IsCell c v:=fun x c e v ⟨o,ho,hd⟩=>by
    have nch:c ∉ ch:=fun z=>(hch c z).2.2.1 x c e rfl
    by_cases hc:c ∈ X.fs
    · obtain ⟨sl,q⟩:=slot c o (I.cne x c e) hc nch ho (I.freeC x c e)
      exact ⟨_,q,hd⟩
    · exact ⟨o,keep c o (I.cne x c e) hc nch ho (I.freeC x c e),hd⟩
  refine ⟨I.ok,I.os,hg,⟨fun b o e n hb hx=>?_,fun b o e n hb hx=>?_,fun b o e n hx=>?_,fun b o e hx=>?_,fun b xs e=>tups b xs (I.base.tups b xs e),fun b o xs e=>frzs b o xs (I.base.frzs b o xs e),fun b ps e=>?_⟩,?_,fun x c e=>?_,?_,fun x c e=>?_,fun p hp=>?_,hok,I.len⟩
  · exact keep b o (neL b o e) hb (neC b o e hx) (I.base.keep b o e n hb hx) (I.base.free b o e n hx)
  · obtain ⟨sl,e1⟩:=I.base.slot b o e n hb hx
    obtain ⟨sl',e2⟩:=slot b _ (neL b o e) hb (neC b o e hx) e1 (I.base.free b o e n hx)
    exact ⟨sl',e2⟩
  · obtain ⟨o',e1⟩:=I.base.there b o e hx
    exact free b o' (neC b o e hx) e1 (I.base.free b o e n hx)
  · obtain ⟨o',e1⟩:=I.base.there b o e hx
    exact there b o' (neC b o e hx) e1
  · obtain ⟨m1,e1⟩:=I.base.tbls b ps e
    obtain ⟨m2,e2⟩:=tbls b _ e1
    exact ⟨m1 ++ m2,by rw [e2,Array.append_assoc]⟩
  · obtain ⟨m,hn,hl⟩:=I.loc
    refine ⟨m,ns m hn,fun i x v e1 e2 e3=>?_⟩
    obtain ⟨u,r,l⟩:=hl i x v e1 e2 e3
    refine ⟨u,r,?_⟩
    rcases l with l | ⟨k,c,e,z⟩
    · exact .inl l
    · exact .inr ⟨k,c,e,cellK x c e _ z⟩
  · obtain ⟨v,z⟩:=I.cell x c e
    exact ⟨v,cellK x c e v z⟩
  · obtain ⟨m,⟨o,_,_,ho,_⟩,_⟩:=I.loc
    exact free _ o (fun z=>(hch _ z).2.1 rfl) ho I.free
  · obtain ⟨v,o,ho,hd⟩:=I.cell x c e
    exact free c o (fun z=>(hch c z).2.2.1 x c e rfl) ho (I.freeC x c e)
  · obtain ⟨e,n,ne,nf,d⟩:=I.pin p hp
    have nch:p.1 ∉ ch:=fun z=>(hch p.1 z).2.2.2 p hp rfl
    exact ⟨keep p.1 p.2 ne nf nch e n,free p.1 p.2 nch e n,ne,nf,d⟩
theorem Inv.un {t':Nat} (I:Inv X pins σ H s) (u:Un X.fs [] H H' s.heap h') (hok:HOk X.prog X.w H' h'):Inv X pins σ H' { s with heap:=h',toks:=t' }:=by
  obtain ⟨m,⟨o,es,ep,ho,r⟩,_⟩:=id I.loc
  obtain ⟨sl,hL⟩:=u.any ho I.free (by simp)
  exact I.step (g':=s.gens) (d':=s.drawn) (ch:=[]) (fun _ z=>nomatch z) (fun b o _ hb _ e n=>u.keep b o e n hb (by simp)) (fun b o _ hb _ e n=>u.slot b o e n hb (by simp)) (fun b o _ e n=>u.free b o e n (by simp)) (fun b o _ e=>u.there b o e (by simp)) u.tups u.frzs u.tbls (fun m' hm=>by
    obtain ⟨o',es',ep',ho',r'⟩:=hm
    rw [ho] at ho'; cases ho'
    exact ⟨_,es',ep',hL,r'⟩) hok I.bare
theorem Inv.call {g':Array GenState} {t':Nat} {d':Drawn} {ch:List Addr} (I:Inv X pins σ H s) (u:Un (frs X.stack) ch H H' s.heap h') (hok:HOk X.prog X.w H' h') (hg:AllBare g')
    (hch:∀ b ∈ ch,(b ∈ X.ex ∨ X.s₀.heap.objs.size ≤ b)∧b ≠ X.env.locals∧(∀ x c,X.env.cells.lookup x = some c→c ≠ b)∧∀ p ∈ X.pn ++ pins,p.1 ≠ b) :
    Inv X pins σ H' { s with heap:=h',gens:=g',drawn:=d',toks:=t' }:=by
  obtain ⟨m,⟨o,es,ep,ho,r⟩,_⟩:=id I.loc
  obtain ⟨sl,hL⟩:=u.any ho I.free fun z=>(hch _ z).2.1 rfl
  exact I.step (ch:=ch) hch (fun b o hL hb hc e n=>u.keep b o e n (fun z=>(List.mem_cons.mp (I.stkSub b z)).elim hL hb) hc) (fun b o _ _ hc e n=>u.any e n hc) (fun b o hc e n=>u.free b o e n hc) (fun b o hc e=>u.there b o e hc) u.tups u.frzs u.tbls (fun m' hm=>by
    obtain ⟨o',es',ep',ho',r'⟩:=hm
    rw [ho] at ho'; cases ho'
    exact ⟨_,es',ep',hL,r'⟩) hok hg
theorem Inv.turned {t':Nat} {it:Addr} (I:Inv X pins σ H s) (k:∀ b o,b ≠ it→s.heap.get? b = some o→h'.get? b = some o) (hn:H it = none) (hL:it ≠ X.env.locals)
    (h1:it ∈ X.ex ∨ X.s₀.heap.objs.size ≤ it) (h2:∀ x c,X.env.cells.lookup x = some c→c ≠ it) (h3:∀ p ∈ X.pn ++ pins,p.1 ≠ it):Inv X pins σ H { s with heap:=h',toks:=t' }:=by
  have nit:∀ b u,H b = some u→b ≠ it:=fun b u e z=>by rw [z,hn] at e; cases e
  refine I.step (g':=s.gens) (d':=s.drawn) (ch:=[it]) (fun b hb=>?_) (fun b o _ _ hc e _=>k b o (fun z=>hc (by simp [z])) e) (fun b o _ _ hc e _=>⟨o.slots,k b o (fun z=>hc (by simp [z])) e⟩) (fun _ _ _ _ n=>n)
    (fun b o hc e=>⟨o,k b o (fun z=>hc (by simp [z])) e⟩) (fun _ _ e=>e) (fun _ _ _ e=>e) (fun b ps e=>⟨#[],by rw [e]; simp⟩) (fun m hm=>?_) (fun b u e=>?_) I.bare
  · have e:b = it:=by simpa using hb
    subst e
    exact ⟨h1,hL,h2,h3⟩
  · obtain ⟨o,es,ep,ho,r⟩:=hm
    exact ⟨o,es,ep,k _ o (Ne.symm hL) ho,r⟩
  · refine (I.hok b u e).stay (fun c v hc q=>k c v ?_ q) (fun _ q=>q) fun _ _ q=>q
    rcases hc with z | z
    · rw [z]; exact nit b u e
    · exact nit c _ z
theorem Inv.tok (I:Inv X pins σ H s) (t:Nat):Inv X pins σ H { s with toks:=t }:=I.un (h':=s.heap) (t':=t) Un.refl I.hok
theorem Inv.kept {t':Nat} (I:Inv X pins σ H s) (k:∀ b u,s.heap.get? b = some u→h'.get? b = some u):Inv X pins σ H { s with heap:=h',toks:=t' }:=I.un (Un.kept k) (I.hok.kept k)
theorem Inv.laid {a:Addr} {o:HO} {t':Nat} (I:Inv X pins σ H s) (k:∀ b u,s.heap.get? b = some u→h'.get? b = some u) (hp:s.heap.objs.size ≤ a) (new:ObjOk X.prog X.w (upd H a o) h' a o) :
    Inv X pins σ (upd H a o) { s with heap:=h',toks:=t' }:=I.un (Un.laid k hp (I.hok.fresh hp)) (I.hok.laid k hp new)
theorem Inv.write {x e:Addr} {o:HO} {t':Nat} (I:Inv X pins σ H s) (mu:Mut (H x)) (he:e = x ∨ H e = some (.own x)) (k:∀ b u,b ≠ e→s.heap.get? b = some u→h'.get? b = some u) (heo:∃ u,h'.get? e = some u)
    (new:ObjOk X.prog X.w (upd H x o) h' x o):Inv X pins σ (upd H x o) { s with heap:=h',toks:=t' }:=I.un (Un.write mu he k heo) (I.hok.write mu he k heo new)
theorem Inv.weak {σ':List (Option V)} (I:Inv X pins σ H s) (hl:σ'.length = σ.length) (w:∀ (i:Nat) v,σ'[i]? = some (some v)→σ[i]? = some (some v)):Inv X pins σ' H s:=
  ⟨I.ok,I.os,I.bare,I.base,let ⟨m,hn,hl'⟩:=I.loc; ⟨m,hn,fun i x v e1 e2 e3=>hl' i x v e1 (w i v e2) e3⟩,I.cell,I.free,I.freeC,I.pin,I.hok,hl.trans I.len⟩
theorem Inv.pins_of {pins':List (Addr × Obj)} (I:Inv X pins σ H s) (h:∀ p ∈ pins',s.heap.get? p.1 = some p.2∧H p.1 = none∧p.1 ≠ X.env.locals∧p.1 ∉ X.fs∧∀ v,p.2.data ≠ .cell v):Inv X pins' σ H s:=
  ⟨I.ok,I.os,I.bare,I.base,I.loc,I.cell,I.free,I.freeC,fun p hp=>(List.mem_append.mp hp).elim (fun z=>I.pin p (List.mem_append_left _ z)) (h p),I.hok,I.len⟩
theorem nodup_ix {N:List Str} (hN:N.Nodup) {i j:Nat} {x:Str} (a:N[i]? = some x) (b:N[j]? = some x):i = j:=by
  obtain ⟨h1,e1⟩:=List.getElem?_eq_some_iff.mp a
  obtain ⟨h2,e2⟩:=List.getElem?_eq_some_iff.mp b
  exact (List.getElem_inj hN).mp (e1.trans e2.symm)
theorem store_ok2 {M:Model} {A:Around} {E:Value→Shared→Prop} {i:Nat} {x:Str} {v:V} {u:Value} {Q:Unit→Shared→Prop} (I:Inv X pins σ H s) (hN:X.N.Nodup) (hi:X.N[i]? = some x) (hx:Loc X.env.scope x) (r:RelV v u)
    (h:∀ s',Inv X pins (σ.set i (some v)) H s'→(∃ a,Heap.SameBut a s.heap s'.heap∧(a = X.env.locals ∨ X.env.cells.lookup x = some a))→Q () s') (hf:X.fn x = true ∨ X.env.scope.names.lookup x = some .local:=by first | exact .inl rfl | exact .inr rfl | assumption):wpAny M A (storeName X.env x u) Q E s:=by
  obtain ⟨m,hn,hl⟩:=id I.loc
  have hcls:(X.env.scope.kind == .class || (X.env.scope.kind == .module && X.env.locals != X.env.globals)) = false:=by rw [I.ok.kind]; rfl
  have hiσ:i < σ.length:=by rw [I.len]; exact (List.getElem?_eq_some_iff.mp hi).1
  have cne:=I.cne
  have tracked:∀ {a:Addr} {h':Heap},(∃ o,s.heap.get? a = some o∧H a = none)→Heap.SameBut a s.heap h'→HOk X.prog X.w H h':=fun {a h'} ha hs b ob e=>by
    obtain ⟨_,_,hfree⟩:=ha
    refine (I.hok b ob e).stay (fun c w' hc q=>(hs.2 c ?_).trans q) (fun _ q=>q) fun _ _ q=>q
    rintro rfl
    rcases hc with rfl | hc
    · rw [hfree] at e; cases e
    · rw [hfree] at hc; cases hc
  rcases hx with hk | hk
  · refine wpAny_storeName_local hk hn (fun h' hn' hs=>?_) hcls
    obtain ⟨oL,_,_,hoL,_⟩:=id hn
    refine h _ ⟨I.ok,I.os,I.bare,⟨fun b o e n hb hx=>?_,fun b o e n hb hx=>?_,I.base.free,fun b o e hx=>?_,I.base.tups,I.base.frzs,I.base.tbls⟩,⟨_,hn',fun j y v' e1 e2 e3=>?_⟩,fun y c e=>?_,I.free,I.freeC,fun p hp=>?_,tracked ⟨oL,hoL,I.free⟩ hs,by simpa using I.len⟩ ⟨_,hs,.inl rfl⟩
    · exact (hs.2 b (Nat.ne_of_lt (Nat.lt_of_lt_of_le (Heap.lt_size e) I.ok.above))).trans (I.base.keep b o e n hb hx)
    · obtain ⟨sl,e1⟩:=I.base.slot b o e n hb hx
      exact ⟨sl,(hs.2 b (Nat.ne_of_lt (Nat.lt_of_lt_of_le (Heap.lt_size e) I.ok.above))).trans e1⟩
    · obtain ⟨o',e1⟩:=I.base.there b o e hx
      exact ⟨o',(hs.2 b (Nat.ne_of_lt (Nat.lt_of_lt_of_le (Heap.lt_size e) I.ok.above))).trans e1⟩
    · by_cases hj:j = i
      · subst hj
        rw [hi] at e1; cases e1
        rw [List.getElem?_set_self hiσ] at e2
        cases e2
        exact ⟨u,r,.inl ⟨hk,by simp⟩⟩
      · rw [List.getElem?_set_ne (Ne.symm hj)] at e2
        obtain ⟨u',r',q⟩:=hl j y v' e1 e2 e3
        refine ⟨u',r',?_⟩
        rcases q with ⟨k,e⟩ | ⟨k,c,e,z⟩
        · refine .inl ⟨k,?_⟩
          have:y ≠ x:=fun e=>hj (nodup_ix hN e1 (e ▸ hi))
          simp [this,e]
        · exact .inr ⟨k,c,e,z.sameBut hs (cne y c e)⟩
    · obtain ⟨w',z⟩:=I.cell y c e
      exact ⟨w',z.sameBut hs (cne y c e)⟩
    · obtain ⟨e,n,ne,nf,d⟩:=I.pin p hp
      exact ⟨(hs.2 p.1 ne).trans e,n,ne,nf,d⟩
  · have hfn:X.fn x = true:=by
      rcases hf with z | z
      · exact z
      · rw [z] at hk; cases hk
    obtain ⟨c,hc⟩:=I.ok.has x (.inl hk)
    obtain ⟨w',z⟩:=I.cell x c hc
    refine wpAny_storeName_cell I.ok.kind hk hc z (fun h' hc' hs=>?_)
    obtain ⟨oc,hoc,hocd⟩:=id z
    refine h { s with heap:=h' } ⟨I.ok,I.os,I.bare,⟨fun b o e n hb hx=>?_,fun b o e n hb hx=>?_,I.base.free,fun b o e hx=>?_,I.base.tups,I.base.frzs,I.base.tbls⟩,⟨m,hn.sameBut hs (Ne.symm (cne x c hc)),fun j y v' e1 e2 e3=>?_⟩,fun y c' e=>?_,I.free,I.freeC,fun p hp=>?_,tracked ⟨oc,hoc,I.freeC x c hc⟩ hs,by simpa using I.len⟩ ⟨c,hs,.inr hc⟩
    · exact (hs.2 b (Nat.ne_of_lt (Nat.lt_of_lt_of_le (Heap.lt_size e) (I.ok.cab x c hfn hc)))).trans (I.base.keep b o e n hb hx)
    · obtain ⟨sl,e1⟩:=I.base.slot b o e n hb hx
      exact ⟨sl,(hs.2 b (Nat.ne_of_lt (Nat.lt_of_lt_of_le (Heap.lt_size e) (I.ok.cab x c hfn hc)))).trans e1⟩
    · obtain ⟨o',e1⟩:=I.base.there b o e hx
      exact ⟨o',(hs.2 b (Nat.ne_of_lt (Nat.lt_of_lt_of_le (Heap.lt_size e) (I.ok.cab x c hfn hc)))).trans e1⟩
    · by_cases hj:j = i
      · subst hj
        rw [hi] at e1; cases e1
        rw [List.getElem?_set_self hiσ] at e2
        cases e2
        exact ⟨u,r,.inr ⟨.inl hk,c,hc,hc'⟩⟩
      · rw [List.getElem?_set_ne (Ne.symm hj)] at e2
        obtain ⟨u',r',q⟩:=hl j y v' e1 e2 e3
        refine ⟨u',r',?_⟩
        rcases q with q | ⟨k,c',e,z'⟩
        · exact .inl q
        · refine .inr ⟨k,c',e,z'.sameBut hs ?_⟩
          rintro rfl
          exact hj (nodup_ix hN e1 (I.ok.inj _ _ _ e hc ▸ hi))
    · by_cases hcc:c' = c
      · subst hcc; exact ⟨_,hc'⟩
      · obtain ⟨w2,z2⟩:=I.cell y c' e
        exact ⟨w2,z2.sameBut hs hcc⟩
    · obtain ⟨e,n,ne,nf,d⟩:=I.pin p hp
      refine ⟨(hs.2 p.1 ?_).trans e,n,ne,nf,d⟩
      intro q
      rw [q,hoc] at e
      have q':oc = p.2:=Option.some.inj e
      exact d w' (by rw [← q']; exact hocd)
theorem store_ok {M:Model} {A:Around} {E:Value→Shared→Prop} {i:Nat} {x:Str} {v:V} {u:Value} {Q:Unit→Shared→Prop} (I:Inv X pins σ H s) (hN:X.N.Nodup) (hi:X.N[i]? = some x) (hx:Loc X.env.scope x) (r:RelV v u)
    (h:∀ s',Inv X pins (σ.set i (some v)) H s'→Q () s') (hf:X.fn x = true ∨ X.env.scope.names.lookup x = some .local:=by first | exact .inl rfl | exact .inr rfl | assumption):wpAny M A (storeName X.env x u) Q E s:=
  store_ok2 I hN hi hx r (fun s' I' _=>h s' I') hf
theorem Inv.call' {s':Shared} {ch:List Addr} (I:Inv X pins σ H s) (ho:s'.os = s.os) (u:Un (frs X.stack) ch H H' s.heap s'.heap) (hok:HOk X.prog X.w H' s'.heap) (hg:AllBare s'.gens)
    (hch:∀ b ∈ ch,(b ∈ X.ex ∨ X.s₀.heap.objs.size ≤ b)∧b ≠ X.env.locals∧(∀ x c,X.env.cells.lookup x = some c→c ≠ b)∧∀ p ∈ X.pn ++ pins,p.1 ≠ b):Inv X pins σ H' s':=by
  obtain ⟨h',g',d',t',o'⟩:=s'
  have e:o' = s.os:=ho
  subst e
  exact I.call (g':=g') (t':=t') (d':=d') u hok hg hch
end
abbrev XK:=Value→Option Addr→Hp→Prop
abbrev St:=List (Option V)
abbrev VK:=V→Hp→Prop
abbrev TE:=St→Hp→VK→Prop
abbrev TT:=St→Hp→(Bool→Hp→Prop)→Prop
abbrev TA:=St→Hp→(List V→Hp→Prop)→Prop
structure Ends where
  nx:St→Hp→Prop
  rt:VK
  bk:St→Hp→Prop:=fun _ _=>False
  ct:St→Hp→Prop:=fun _ _=>False
abbrev TS:=Ends→St→Hp→Prop
def EP (X:Cx) (pins:List (Addr × Obj)) (σ:St) (Q:VK) (u:Value) (s':Shared):Prop:=∃ v H',Inv X pins σ H' s'∧RelV v u∧Q v H'
def TP (X:Cx) (pins:List (Addr × Obj)) (σ:St) (Q:Bool→Hp→Prop) (b:Bool) (s':Shared):Prop:=∃ H',Inv X pins σ H' s'∧Q b H'
def AP (X:Cx) (pins:List (Addr × Obj)) (σ:St) (Q:List V→Hp→Prop) (us:List Value) (s':Shared):Prop:=∃ vs H',Inv X pins σ H' s'∧Vals vs us∧Q vs H'
def SP (X:Cx) (pins:List (Addr × Obj)) (D:Ends) (f:Flow) (s':Shared):Prop:=
  match f with
  | .next=>∃ σ' H',Inv X pins σ' H' s'∧D.nx σ' H'
  | .brk=>∃ σ' H',Inv X pins σ' H' s'∧D.bk σ' H'
  | .cont=>∃ σ' H',Inv X pins σ' H' s'∧D.ct σ' H'
  | .ret u=>∃ v σ' H',Inv X pins σ' H' s'∧RelV v u∧D.rt v H'
def PE (X:Cx) (e:Expr) (t:TE):Prop:=
  ∀ (pins:List (Addr × Obj)) (s:Shared) (σ:St) (H:Hp) (Q:VK),Inv X pins σ H s→t σ H Q→wpAny (model X.prog X.w) X.A (eval e X.env) (EP X pins σ Q) X.xe s
def PT (X:Cx) (e:Expr) (t:TT):Prop:=
  ∀ (pins:List (Addr × Obj)) (s:Shared) (σ:St) (H:Hp) (Q:Bool→Hp→Prop),Inv X pins σ H s→t σ H Q→wpAny (model X.prog X.w) X.A (isTrue e X.env (eval e X.env)) (TP X pins σ Q) X.xe s
def PW (X:Cx) (e:Expr) (t:TT):Prop:=
  ∀ (whole:Sem Value) (pins:List (Addr × Obj)) (s:Shared) (σ:St) (H:Hp) (Q:Bool→Hp→Prop),Inv X pins σ H s→t σ H Q→wpAny (model X.prog X.w) X.A (isTrue e X.env whole) (TP X pins σ Q) X.xe s
theorem PW.pt {X:Cx} {e:Expr} {t:TT} (h:PW X e t):PT X e t:=h _
def PA (X:Cx) (es:List Expr) (t:TA):Prop:=
  ∀ (pos:Pos) (pins:List (Addr × Obj)) (s:Shared) (σ:St) (H:Hp) (Q:List V→Hp→Prop),Inv X pins σ H s→t σ H Q→wpAny (model X.prog X.w) X.A (spliced (backTo pos (starEach es X.env))) (AP X pins σ Q) X.xe s
def PS (X:Cx) (st:Stmt) (t:TS):Prop:=
  ∀ (pins:List (Addr × Obj)) (s:Shared) (σ:St) (H:Hp) (D:Ends),Inv X pins σ H s→t D σ H→wpAny (model X.prog X.w) X.A (exec st X.env) (SP X pins D) X.xe s
def PSs (X:Cx) (st:List Stmt) (t:TS):Prop:=
  ∀ (pins:List (Addr × Obj)) (s:Shared) (σ:St) (H:Hp) (D:Ends),Inv X pins σ H s→t D σ H→wpAny (model X.prog X.w) X.A (execs st X.env) (SP X pins D) X.xe s
theorem thn {α:Type} {t:Sem α} {Q Q':α→Shared→Prop} {M:Model} {A:Around} {E:Value→Shared→Prop} {s:Shared} (h:wpAny M A t Q E s) (hQ:∀ a s,Q a s→Q' a s):wpAny M A t Q' E s:=wpAny_mono h hQ fun _ _ x=>x
section
variable {X:Cx}
def tVar (i:Nat):TE:=fun σ H Q=>∃ v,σ[i]? = some (some v)∧Q v H
def tC (v:V):TE:=fun _ H Q=>Q v H
theorem pe_var {i : Nat} {x : Str} {pos : Pos} (hN : X.N[i]? = some x) (hv : Vis X.env.scope x) (hd : (x == ("__debug__" : Str)) = false := by decide) (hcd : (x == ("__classdict__" : Str)) = false := by decide) : PE X (.Name x pos) (tVar i) := by
  intro pins s σ H Q I h
  obtain ⟨v,e,h⟩:=h
  obtain ⟨m,hn,hl⟩:=I.loc
  obtain ⟨u,r,l⟩:=hl i x v hN e hv
  have fin:EP X pins σ Q u s:=⟨v,H,I,r,h⟩
  rcases l with ⟨hk,hm⟩ | ⟨hk,c,hc,hcell⟩
  · exact wpAny_Name (wpAny_loadName_local I.ok.kind hk hn hm fin) hd
  · rcases hk with hk | hk
    · exact wpAny_Name (wpAny_loadName_cell I.ok.kind hk hc hcell fin) hd
    · exact wpAny_Name (wpAny_loadName_free I.ok.kind hk hc hcell fin hcd) hd
theorem pe_int {i j pos}:PE X (.Constant (.int i) j pos) (tC (.int i)):=fun _ _ _ H _ I h=>wpAny_Constant_int ⟨.int i,H,I.tok _,⟨_,rfl⟩,h⟩
theorem pe_bl {b j pos}:PE X (.Constant (.bool b) j pos) (tC (.bl b)):=fun _ _ _ H _ I h=>Constant_bool ⟨.bl b,H,I,rfl,h⟩
theorem pe_non {j pos}:PE X (.Constant .none j pos) (tC .non):=fun _ _ _ H _ I h=>Constant_none ⟨.non,H,I,rfl,h⟩
theorem pe_str {x j pos}:PE X (.Constant (.str x) j pos) (tC (.str x)):=fun _ _ _ H _ I h=>Calls.Constant_str ⟨.str x,H,I.tok _,⟨_,rfl⟩,h⟩
def Gl (X:Cx) (x:Str):Prop:=X.env.kindOf x = some .globalImplicit
theorem ld_glob {E:Value→Shared→Prop} {pins:List (Addr × Obj)} {s:Shared} {σ:St} {H:Hp} {x:Str} {u:Value} {pos:Pos} {Q:Value→Shared→Prop} (I:Inv X pins σ H s) (hg:Gl X x) (hm:X.mg x = some u) (h:Q u s)
    (hd:(x == ("__debug__":Str)) = false:=by decide):wpAny (model X.prog X.w) X.A (eval (.Name x pos) X.env) Q E s:=
  Calls.Name_function_global I.ok.kind hg (Calls.loadGlobal_global (by rw [I.ok.glob]; exact I.mod.glob.keeps I.bk) hm h) hd
theorem ld_blt {E:Value→Shared→Prop} {pins:List (Addr × Obj)} {s:Shared} {σ:St} {H:Hp} {x:Str} {u:Value} {pos:Pos} {Q:Value→Shared→Prop} (I:Inv X pins σ H s) (hg:Gl X x) (hm:X.mg x = none) (hv:bootBuiltins x = some u) (h:Q u s)
    (hn : x ≠ "__name__" := by decide) (hd : (x == ("__debug__" : Str)) = false := by decide) : wpAny (model X.prog X.w) X.A (eval (.Name x pos) X.env) Q E s := by
  obtain ⟨mb,h1,h2⟩:=I.mod.blt
  exact Calls.Name_function_global I.ok.kind hg (Calls.loadGlobal_builtin (by rw [I.ok.glob]; exact I.mod.glob.keeps I.bk) hm (by rw [I.ok.blt]; exact h1.keeps I.bk) ((h2 x hn).trans hv) h) hd
theorem pe_glob {x:Str} {v:V} {u:Value} {pos:Pos} (hg:Gl X x) (hm:X.mg x = some u) (r:RelV v u) (hd:(x == ("__debug__":Str)) = false:=by decide):PE X (.Name x pos) (tC v):=
  fun _ _ _ H _ I h=>ld_glob I hg hm ⟨v,H,I,r,h⟩ hd
theorem pe_bltn {x : Str} {v : V} {u : Value} {pos : Pos} (hg : Gl X x) (hm : X.mg x = none) (hv : bootBuiltins x = some u) (r : RelV v u) (hn : x ≠ "__name__" := by decide) (hd : (x == ("__debug__" : Str)) = false := by decide) : PE X (.Name x pos) (tC v) :=
  fun _ _ _ H _ I h=>ld_blt I hg hm hv ⟨v,H,I,r,h⟩ hn hd
variable {a b:Expr} {ta tb:TE} {pos:Pos}
def PC (X:Cx) (op:CmpOp) (a b:Expr) (t:TE):Prop:=
  ∀ (pins:List (Addr × Obj)) (s:Shared) (σ:St) (H:Hp) (Q:VK),Inv X pins σ H s→t σ H Q→
    wpAny (model X.prog X.w) X.A (eval a X.env) (fun v s₁=>wpAny (model X.prog X.w) X.A (eval b X.env) (fun u s₂=>wpAny (model X.prog X.w) X.A (compareOp op v u) (EP X pins σ Q) X.xe s₂) X.xe s₁) X.xe s
theorem nobehind (b:Expr) {op:CmpOp} (h:op ≠ .In) (h2:op ≠ .NotIn):behindInMarks op b = false:=by
  have e1:(op == CmpOp.In) = false:=by cases op <;> first | rfl | exact absurd rfl h
  have e2:(op == CmpOp.NotIn) = false:=by cases op <;> first | rfl | exact absurd rfl h2
  cases b <;> simp [behindInMarks,e1,e2]
def tIsN (ta:TE):TE:=fun σ H Q=>ta σ H fun x H1=>Q (.bl (decide (x = .non))) H1
def tNotN (ta:TE):TE:=fun σ H Q=>ta σ H fun x H1=>Q (.bl (!decide (x = .non))) H1
theorem RelV.none_iff {x:V} {v:Value} (r:RelV x v):(v == Value.none) = decide (x = .non):=by
  cases x with
  | non=>cases r; rfl
  | bl _=>cases r; rfl
  | int _=>obtain ⟨t,rfl⟩:=r; rfl
  | str _=>obtain ⟨t,rfl⟩:=r; rfl
  | byt _=>obtain ⟨t,rfl⟩:=r; rfl
  | flt _=>obtain ⟨t,rfl⟩:=r; rfl
  | ref _=>cases r; rfl
  | ty _=>cases r; rfl
theorem pc_isN {j pos'} (ha:PE X a ta):PC X .Is a (.Constant .none j pos') (tIsN ta):=by
  intro pins s σ H Q I h
  refine thn (ha pins s σ H _ I h) fun v s1 ⟨x,H1,I1,r1,q1⟩=>?_
  exact Constant_none (is_none_gen ⟨.bl _,H1,I1,by rw [r1.none_iff]; rfl,q1⟩)
theorem pc_notN {j pos'} (ha:PE X a ta):PC X .IsNot a (.Constant .none j pos') (tNotN ta):=by
  intro pins s σ H Q I h
  refine thn (ha pins s σ H _ I h) fun v s1 ⟨x,H1,I1,r1,q1⟩=>?_
  exact Constant_none (isnot_none_gen ⟨.bl _,H1,I1,by rw [r1.none_iff]; rfl,q1⟩)
def tB (t:TE):TT:=fun σ H Q=>t σ H fun x H1=>∃ c,x = .bl c∧Q c H1
theorem pt_cmp {op:CmpOp} {t:TE} (h:PC X op a b t) (h1:behindInMarks op b = false:=by first | exact nobehind _ (by decide) (by decide) | rfl):PT X (.Compare a [op] [b] pos) (tB t):=by
  intro pins s σ H Q I hw
  refine wpAny_isTrue_Compare1 (thn (h pins s σ H _ I hw) fun v s1 h1=>thn h1 fun u s2 h2=>thn h2 fun c s3 ⟨x,H1,I1,r1,q1⟩=>?_) h1
  obtain ⟨d,rfl,q⟩:=q1
  cases r1
  exact wpAny_truthy_bool ⟨H1,I1,q⟩
theorem pt_val {e:Expr} {t:TE} (h:PE X e t) (he:∀ whole,isTrue e X.env whole = (do let v ← whole; standAt e.pos; holding [v] (truthy v)):=by intro _; rfl):PT X e (tB t):=by
  intro pins s σ H Q I hw
  refine isTrue_plain (thn (h pins s σ H _ I hw) fun v s1 ⟨x,H1,I1,r1,q1⟩=>?_) (he _)
  obtain ⟨d,rfl,q⟩:=q1
  cases r1
  exact wpAny_truthy_bool ⟨H1,I1,q⟩
variable {tA tB':TT} {rest:List Expr}
def tAnd (t u:TT):TT:=fun σ H Q=>t σ H fun c H1=>if c = true then u σ H1 Q else Q false H1
def tOr (t u:TT):TT:=fun σ H Q=>t σ H fun c H1=>if c = true then Q true H1 else u σ H1 Q
def tNot (t:TT):TT:=fun σ H Q=>t σ H fun c H1=>Q (!c) H1
theorem pw_and1 (ha:PT X a tA):PW X (.BoolOp .And [a] pos) tA:=by
  intro wh pins s σ H Q I h
  refine isTrue_and (thn (ha pins s σ H Q I h) fun c s1 e=>?_)
  cases c with
  | true=>exact isTrue_and_nil e
  | false=>exact e
theorem pw_or1 (ha:PT X a tA):PW X (.BoolOp .Or [a] pos) tA:=by
  intro wh pins s σ H Q I h
  refine isTrue_or (thn (ha pins s σ H Q I h) fun c s1 e=>?_)
  cases c with
  | false=>exact isTrue_or_nil e
  | true=>exact e
theorem pw_and (ha:PT X a tA) (hb:PW X (.BoolOp .And (b :: rest) pos) tB'):PW X (.BoolOp .And (a :: b :: rest) pos) (tAnd tA tB'):=by
  intro wh pins s σ H Q I h
  refine isTrue_and (thn (ha pins s σ H _ I h) fun c s1 ⟨H1,I1,q1⟩=>?_)
  cases c with
  | true=>exact hb wh pins s1 σ H1 Q I1 q1
  | false=>exact ⟨H1,I1,q1⟩
theorem pw_or (ha:PT X a tA) (hb:PW X (.BoolOp .Or (b :: rest) pos) tB'):PW X (.BoolOp .Or (a :: b :: rest) pos) (tOr tA tB'):=by
  intro wh pins s σ H Q I h
  refine isTrue_or (thn (ha pins s σ H _ I h) fun c s1 ⟨H1,I1,q1⟩=>?_)
  cases c with
  | true=>exact ⟨H1,I1,q1⟩
  | false=>exact hb wh pins s1 σ H1 Q I1 q1
theorem pt_not (ha:PT X a tA):PT X (.UnaryOp .Not a pos) (tNot tA):=by
  intro pins s σ H Q I h
  exact isTrue_not (ha pins s σ H (fun c H1=>Q (!c) H1) I h)
def tAndV (ta tb:TE):TE:=fun σ H Q=>ta σ H fun x H1=>∃ c,x = .bl c∧if c = true then tb σ H1 Q else Q (.bl false) H1
theorem pe_one {op} {t:TE} (h:PE X a t):PE X (.BoolOp op [a] pos) t:=fun pins s σ H Q I hw=>BoolOp_one (h pins s σ H Q I hw)
theorem pe_and (ha:PE X a ta) (hb:PE X (.BoolOp .And (b :: rest) pos) tb):PE X (.BoolOp .And (a :: b :: rest) pos) (tAndV ta tb):=by
  intro pins s σ H Q I h
  refine BoolOp_and (thn (ha pins s σ H _ I h) fun v s1 ⟨x,H1,I1,r1,q1⟩=>?_)
  obtain ⟨c,rfl,q1⟩:=q1
  cases r1
  refine wpAny_truthy_bool ?_
  cases c with
  | true=>exact hb pins s1 σ H1 Q I1 q1
  | false=>exact ⟨.bl false,H1,I1,rfl,q1⟩
def tIf (t:TT) (ta tb:TE):TE:=fun σ H Q=>t σ H fun c H1=>if c = true then ta σ H1 Q else tb σ H1 Q
theorem pe_ifExp {c:Expr} (hc:PT X c tA) (ha:PE X a ta) (hb:PE X b tb):PE X (.IfExp c a b pos) (tIf tA ta tb):=by
  intro pins s σ H Q I h
  refine wpAny_IfExp (thn (hc pins s σ H _ I h) fun d s1 ⟨H1,I1,q1⟩=>?_)
  cases d with
  | true=>exact ha pins s1 σ H1 Q I1 q1
  | false=>exact hb pins s1 σ H1 Q I1 q1
end
def SqL (K:PySem.W.Frag) (H:Hp) (a:Addr) (xs:List V):Prop:=
  Rd H a (.lst xs) ∨
    ∃ (o:Obj) (its:Array Value) (n:Nat),K.lookup a = some o∧o.cls = .type "list"∧o.dict = none∧o.data = .seq its n∧its.size ≤ sizeLine∧Vals xs its.toList
def SqT (K:PySem.W.Frag) (H:Hp) (a:Addr) (xs:List V):Prop:=
  Rd H a (.tup xs) ∨
    ∃ (o:Obj) (its:Array Value) (n:Nat),K.lookup a = some o∧o.cls = .type "tuple"∧o.data = .seq its n∧its.size ≤ sizeLine∧Vals xs its.toList
def absV:Value→Option V
  | .none=>some .non
  | .bool b=>some (.bl b)
  | .int i _=>some (.int i)
  | .str x _=>some (.str x)
  | .bytes b _=>some (.byt b)
  | .float b _=>some (.flt b)
  | .ref a=>some (.ref a)
  | .type n=>some (.ty n)
  | _=>none
theorem RelV.abs {x:V} {u:Value} (r:RelV x u):absV u = some x:=by
  cases x with
  | non=>cases r; rfl
  | bl _=>cases r; rfl
  | int _=>obtain ⟨t,rfl⟩:=r; rfl
  | str _=>obtain ⟨t,rfl⟩:=r; rfl
  | byt _=>obtain ⟨t,rfl⟩:=r; rfl
  | flt _=>obtain ⟨t,rfl⟩:=r; rfl
  | ref _=>cases r; rfl
  | ty _=>cases r; rfl
theorem RelV.inj {x y:V} {u:Value} (r:RelV x u) (q:RelV y u):x = y:=Option.some.inj (r.abs.symm.trans q.abs)
theorem Vals.inj:∀ {xs ys:List V} {us:List Value},Vals xs us→Vals ys us→xs = ys
  | _,_,_,.nil,.nil=>rfl
  | _,_,_,.cons r t,.cons r' t'=>by rw [r.inj r',Vals.inj t t']
section
variable {X:Cx} {pins:List (Addr × Obj)} {σ:St} {H:Hp} {s:Shared} {a:Addr} {xs ys:List V}
theorem SqL.of {K:PySem.W.Frag} (h:H a = some (.lst xs)):SqL K H a xs:=.inl (.inl h)
theorem SqT.of {K:PySem.W.Frag} (h:H a = some (.tup xs)):SqT K H a xs:=.inl (.inl h)
theorem Inv.list (I:Inv X pins σ H s) (h:SqL X.K H a xs):∃ its:List Value,Vals xs its∧PlainL s.heap a its.toArray∧xs.length ≤ sizeLine:=by
  rcases h with h | ⟨o,its,n,hk,hc,hd,hs,hz,r⟩
  · obtain ⟨z,its,n,r,e⟩:=h.ok I.hok
    exact ⟨its,r,⟨_,n,e,rfl,rfl,rfl⟩,z⟩
  · refine ⟨its.toList,r,⟨o,n,I.kIn a o hk,hc,hd,by simpa using hs⟩,?_⟩
    have e:=r.length
    simp only [Array.length_toList] at e
    omega
theorem Inv.tuple (I:Inv X pins σ H s) (h:SqT X.K H a xs):∃ its:List Value,Vals xs its∧IsTup s.heap a its.toArray∧xs.length ≤ sizeLine:=by
  rcases h with h | ⟨o,its,n,hk,hc,hs,hz,r⟩
  · obtain ⟨z,its,r,p⟩:=h.ok I.hok
    exact ⟨its,r,p,z⟩
  · refine ⟨its.toList,r,⟨o,I.kIn a o hk,hc,n,by simpa using hs⟩,?_⟩
    have e:=r.length
    simp only [Array.length_toList] at e
    omega
theorem Inv.list_inj (I:Inv X pins σ H s) (h:SqL X.K H a xs) (h':SqL X.K H a ys):xs = ys:=by
  obtain ⟨its,r,⟨o,n,e,_,_,d⟩,_⟩:=I.list h
  obtain ⟨its',r',⟨o',n',e',_,_,d'⟩,_⟩:=I.list h'
  rw [e] at e'; cases e'
  rw [d] at d'
  injection d' with d1 _
  have:its = its':=by simpa using congrArg Array.toList d1
  subst this
  exact r.inj r'
end
abbrev Cx.wish (X:Cx) (E:Value→Shared→Prop):Cx:={ X with xe:=E }
abbrev Cx.nox (X:Cx):Cx:=X.wish fun _ _=>False
theorem Cx.Ok.wish {X:Cx} (ok:X.Ok) (E:Value→Shared→Prop):(X.wish E).Ok:=
  ⟨ok.mod,ok.kind,ok.glob,ok.blt,ok.above,ok.inj,ok.has,ok.cab,ok.hd,ok.frames,ok.stk,ok.exf,ok.bs,ok.bsz,ok.noex,ok.exfs,ok.funs,ok.frf⟩
theorem Cx.Ok.unwish {X:Cx} {E:Value→Shared→Prop} (ok:(X.wish E).Ok):X.Ok:=
  ⟨ok.mod,ok.kind,ok.glob,ok.blt,ok.above,ok.inj,ok.has,ok.cab,ok.hd,ok.frames,ok.stk,ok.exf,ok.bs,ok.bsz,ok.noex,ok.exfs,ok.funs,ok.frf⟩
section
variable {X:Cx} {pins:List (Addr × Obj)} {σ:St} {H:Hp} {s:Shared} {E:Value→Shared→Prop}
theorem Inv.wish (I:Inv X pins σ H s) (E:Value→Shared→Prop):Inv (X.wish E) pins σ H s:=⟨I.ok.wish E,I.os,I.bare,I.base,I.loc,I.cell,I.free,I.freeC,I.pin,I.hok,I.len⟩
theorem Inv.unwish (I:Inv (X.wish E) pins σ H s):Inv X pins σ H s:=⟨I.ok.unwish,I.os,I.bare,I.base,I.loc,I.cell,I.free,I.freeC,I.pin,I.hok,I.len⟩
theorem SP.unwish {D:Ends} {f:Flow} {s':Shared} (h:SP (X.wish E) pins D f s'):SP X pins D f s':=by
  cases f with
  | next=>obtain ⟨σ',H',I,q⟩:=h; exact ⟨σ',H',I.unwish,q⟩
  | brk=>obtain ⟨σ',H',I,q⟩:=h; exact ⟨σ',H',I.unwish,q⟩
  | cont=>obtain ⟨σ',H',I,q⟩:=h; exact ⟨σ',H',I.unwish,q⟩
  | ret u=>obtain ⟨v,σ',H',I,r,q⟩:=h; exact ⟨v,σ',H',I.unwish,r,q⟩
theorem PSs.nox {st:List Stmt} {t:TS} (h:PSs X.nox st t):PSs X st t:=fun pins s σ H D I hw=>
  wpAny_mono (h pins s σ H D (I.wish _) hw) (fun _ _ q=>q.unwish) fun _ _ z=>False.elim z
end
section
variable {X:Cx} {st:Stmt} {rest:List Stmt} {t u:TS} {e:Expr} {te:TE} {pos:Pos}
def tNext:TS:=fun D σ H=>D.nx σ H
def tSeq (t u:TS):TS:=fun D σ H=>t { D with nx:=u D } σ H
theorem pss_nil:PSs X [] tNext:=fun _ _ σ H _ I h=>wpAny_execs_nil ⟨σ,H,I,h⟩
theorem pss_cons (h1:PS X st t) (h2:PSs X rest u):PSs X (st :: rest) (tSeq t u):=by
  intro pins s σ H D I h
  refine wpAny_execs_cons (thn (h1 pins s σ H { D with nx:=u D } I h) fun f s1 q=>?_)
  cases f with
  | next=>
    obtain ⟨σ',H',I',q⟩:=q
    exact h2 pins s1 σ' H' D I' q
  | ret v=>exact q
  | brk=>exact q
  | cont=>exact q
theorem pss_one (h1:PS X st t):PSs X [st] t:=by
  intro pins s σ H D I h
  refine wpAny_execs_cons (thn (h1 pins s σ H D I h) fun f s1 q=>?_)
  cases f with
  | next=>exact wpAny_execs_nil q
  | ret v=>exact q
  | brk=>exact q
  | cont=>exact q
theorem Inv.quiet {pins:List (Addr × Obj)} {σ:St} {H:Hp} {s:Shared} (I:Inv X pins σ H s):interactive X.env = false:=by simp [interactive,I.ok.kind]
def tDrop (te:TE):TS:=fun D σ H=>te σ H fun _ H1=>D.nx σ H1
theorem ps_expr (he:PE X e te) (hs:swapsWith e none pos.line X.env = pure false:=by rfl):PS X (.Expr e pos) (tDrop te):=by
  intro pins s σ H D I h
  exact wpAny_Expr_any (thn (he pins s σ H _ I h) fun v s1 ⟨x,H1,I1,r1,q1⟩=>⟨σ,H1,I1,q1⟩) I.quiet hs
def tRet (te:TE):TS:=fun D σ H=>te σ H D.rt
theorem ps_ret (he:PE X e te):PS X (.Return (some e) pos) (tRet te):=by
  intro pins s σ H D I h
  exact wpAny_Return_some (thn (he pins s σ H _ I h) fun v s1 ⟨x,H1,I1,r1,q1⟩=>⟨x,σ,H1,I1,r1,q1⟩)
def tIfS (c:TT) (t u:TS):TS:=fun D σ H=>c σ H fun b H1=>if b = true then t D σ H1 else u D σ H1
theorem ps_if {c:Expr} {a b:List Stmt} {tc:TT} (hc:PT X c tc) (ha:PSs X a t) (hb:PSs X b u):PS X (.If c a b pos) (tIfS tc t u):=by
  intro pins s σ H D I h
  refine wpAny_If (thn (hc pins s σ H _ I h) fun d s1 ⟨H1,I1,q1⟩=>?_)
  cases d with
  | true=>exact ha pins s1 σ H1 D I1 q1
  | false=>exact hb pins s1 σ H1 D I1 q1
def tNever:TS:=fun _ _ _=>False
theorem ps_never:PS X st tNever:=fun _ _ _ _ _ _ h=>h.elim
end
abbrev TG:=V→St→Hp→(St→Hp→Prop)→Prop
abbrev TGs:=List V→St→Hp→(St→Hp→Prop)→Prop
def PG (X:Cx) (target:Expr) (t:TG):Prop:=
  ∀ (pins:List (Addr × Obj)) (s:Shared) (σ:St) (H:Hp) (v:V) (u:Value) (Q:St→Hp→Prop),Inv X pins σ H s→RelV v u→t v σ H Q→
    wpAny (model X.prog X.w) X.A (assign target X.env u) (fun _ s'=>∃ σ' H',Inv X pins σ' H' s'∧Q σ' H') X.xe s
def PGs (X:Cx) (ts:List Expr) (t:TGs):Prop:=
  ∀ (pins:List (Addr × Obj)) (s:Shared) (σ:St) (H:Hp) (vs:List V) (us:List Value) (Q:St→Hp→Prop),Inv X pins σ H s→Vals vs us→t vs σ H Q→
    wpAny (model X.prog X.w) X.A (assignInOrder ((assignEach ts X.env).map (·.2)) us) (fun _ s'=>∃ σ' H',Inv X pins σ' H' s'∧Q σ' H') X.xe s
section
variable {X:Cx} {pos:Pos}
def gName (i:Nat):TG:=fun v σ H Q=>Q (σ.set i (some v)) H
theorem pg_name {i:Nat} {x:Str} (hN:X.N.Nodup) (hi:X.N[i]? = some x) (hx:Loc X.env.scope x) (hf:X.fn x = true ∨ X.env.scope.names.lookup x = some .local:=by first | exact .inl rfl | exact .inr rfl | assumption):PG X (.Name x pos) (gName i):=by
  intro pins s σ H v u Q I r h
  exact wpAny_assign_Name (store_ok I hN hi hx r (fun s' I'=>⟨_,H,I',h⟩) hf)
def gNil:TGs:=fun vs σ H Q=>vs = []∧Q σ H
def gCons (t:TG) (u:TGs):TGs:=fun vs σ H Q=>∃ v r,vs = v :: r∧t v σ H fun σ' H'=>u r σ' H' Q
theorem pgs_nil:PGs X [] gNil:=by
  intro pins s σ H vs us Q I r h
  obtain ⟨e,h⟩:=h
  subst e
  cases r
  exact assignInOrder_nil ⟨σ,H,I,h⟩
theorem pgs_cons {e:Expr} {es:List Expr} {t:TG} {u:TGs} (h1:PG X e t) (h2:PGs X es u)
    (hs:(assignEach (e :: es) X.env).map (·.2) = assign e X.env :: (assignEach es X.env).map (·.2):=by rfl):PGs X (e :: es) (gCons t u):=by
  intro pins s σ H vs us Q I r h
  obtain ⟨v,vr,e1,h⟩:=h
  subst e1
  cases r with
  | cons r rr=>
    rw [hs]
    refine assignInOrder_cons (thn (h1 pins s σ H _ _ _ I r h) fun _ s1 ⟨σ1,H1,I1,q1⟩=>?_)
    exact h2 pins s1 σ1 H1 _ _ Q I1 rr q1
def gTup (K:PySem.W.Frag) (n:Nat) (t:TGs):TG:=fun v σ H Q=>∃ a xs,v = .ref a∧SqT K H a xs∧xs.length = n∧t xs σ H Q
theorem pg_tup {es:List Expr} {k:Nat} {t:TGs} {n:Nat} (hc:X.calm = true) (h:PGs X es t)
    (hn:(assignEach es X.env).length = n:=by rfl) (hst:(assignEach es X.env).findIdx? (·.1) = none:=by rfl):PG X (.Tuple es k pos) (gTup X.K n t):=by
  intro pins s σ H v u Q I r hw
  obtain ⟨a,xs,e1,hq,hl,hw⟩:=hw
  subst e1
  cases r
  obtain ⟨its,rv,ht,hz⟩:=I.tuple hq
  refine assign_Tuple_tuple (I.ok.hd hc) ht (by simp [hn,← hl,rv.length]) hst fun h' hx=>?_
  have I1:Inv X pins σ H { s with heap:=h' }:=I.kept (t':=s.toks) fun b o e=>hx b o (Nat.ne_of_lt (Heap.lt_size e)) e
  exact h pins _ σ H xs _ Q I1 (by simpa using rv) hw
def tAsg (te:TE) (g:TG):TS:=fun D σ H=>te σ H fun x H1=>g x σ H1 D.nx
theorem ps_asg {tg e:Expr} {te:TE} {g:TG} (he:PE X e te) (hg:PG X tg g) (hs:swapsWithSole [tg] e pos.line X.env = pure false:=by rfl) (hw:swappedStores [tg] e X.env = pure none:=by rfl)
    (h1:(assignEach [tg] X.env).map (·.2) = [assign tg X.env]:=by rfl):PS X (.Assign [tg] e pos) (tAsg te g):=by
  intro pins s σ H D I h
  refine wpAny_Assign_stores (thn (he pins s σ H _ I h) fun v s1 ⟨x,H1,I1,r1,q1⟩=>?_) hs hw
  rw [h1]
  exact thn (hg pins s1 σ H1 x v _ I1 r1 q1) fun _ s2 q=>q
theorem ps_set {i:Nat} {x:Str} {e:Expr} {te:TE} {pos':Pos} (hN:X.N.Nodup) (hi:X.N[i]? = some x) (hx:Loc X.env.scope x) (he:PE X e te) (hs:swapsWith e (some (.Name x pos')) pos.line X.env = pure false:=by rfl) (hf:X.fn x = true ∨ X.env.scope.names.lookup x = some .local:=by first | exact .inl rfl | exact .inr rfl | assumption) :
    PS X (.Assign [.Name x pos'] e pos) (tAsg te (gName i)):=by
  intro pins s σ H D I h
  refine wpAny_Assign_Name (thn (he pins s σ H _ I h) fun v s1 ⟨y,H1,I1,r1,q1⟩=>?_) hs
  exact store_ok I1 hN hi hx r1 (fun s2 I2=>⟨_,H1,I2,q1⟩) hf
end
section
variable {X:Cx} {pos:Pos}
def tWhile (c:TT) (tb:TS):TS:=fun D σ H=>∃ W:Nat→St→Hp→Prop,(∃ m,W m σ H)∧∀ m σ H,W m σ H→
  c σ H fun b H1=>if b = true then ∃ N:St→Hp→Prop,(∀ σ' H',N σ' H'→∃ m',m' < m∧W m' σ' H')∧tb { D with nx:=N,ct:=N,bk:=D.nx } σ H1 else D.nx σ H1
theorem ps_while {c:Expr} {body:List Stmt} {tc:TT} {tb:TS} (hp:PassesOwn (model X.prog X.w) X.A X.env X.xe) (hc:PT X c tc) (hb:PSs X body tb):PS X (.While c body [] pos) (tWhile tc tb):=by
  intro pins s σ H D I h
  obtain ⟨W,⟨m0,w0⟩,turn⟩:=h
  refine wpAny_While (codeAny_whileLoop (fun n s'=>∃ σ' H',Inv X pins σ' H' s'∧W n σ' H') ?_ m0 ⟨σ,H,I,w0⟩)
  rintro n s1 ⟨σ1,H1,I1,w1⟩
  refine wpAny_passesOwn hp (thn (hc pins s1 σ1 H1 _ I1 (turn n σ1 H1 w1)) fun b s2 ⟨H2,I2,q2⟩=>?_)
  cases b with
  | true=>
    obtain ⟨N,hN,q2⟩:=q2
    rw [if_pos rfl]
    refine wpAny_passesOwn hp (thn (hb pins s2 σ1 H2 _ I2 q2) fun f s3 q3=>?_)
    cases f with
    | next=>
      obtain ⟨σ3,H3,I3,n3⟩:=q3
      obtain ⟨m',hm,w3⟩:=hN σ3 H3 n3
      exact ⟨m',hm,σ3,H3,I3,w3⟩
    | cont=>
      obtain ⟨σ3,H3,I3,n3⟩:=q3
      obtain ⟨m',hm,w3⟩:=hN σ3 H3 n3
      exact ⟨m',hm,σ3,H3,I3,w3⟩
    | brk=>exact q3
    | ret v=>exact q3
  | false=>
    rw [if_neg Bool.false_ne_true]
    exact wpAny_execs_nil ⟨σ1,H2,I2,q2⟩
end
structure It where
  go:Nat→Hp→Prop
  yld:Nat→Hp→V→Hp→Prop
  stop:Nat→Hp→Prop
def FpOk (X:Cx) (pins:List (Addr × Obj)) (H:Hp) (b:Addr):Prop:=
  H b = none∧b ≠ X.env.locals∧b ∉ X.fs∧(b ∈ X.ex ∨ X.s₀.heap.objs.size ≤ b)∧(∀ x c,X.env.cells.lookup x = some c→c ≠ b)∧∀ p ∈ X.pn ++ pins,p.1 ≠ b
theorem Inv.fpOk {X:Cx} {pins:List (Addr × Obj)} {σ:St} {H H':Hp} {s:Shared} {b:Addr} (I:Inv X pins σ H s) (hb:s.heap.objs.size ≤ b) (hn:H' b = none):FpOk X pins H' b:=by
  refine ⟨hn,Nat.ne_of_gt (Nat.lt_of_lt_of_le I.lt hb),I.nofs hb,.inr (Nat.le_trans I.sz hb),fun x c e z=>?_,fun p hp z=>?_⟩
  · obtain ⟨v,q⟩:=I.cell x c e
    exact absurd (Nat.lt_of_lt_of_le q.lt (by rw [z]; exact hb)) (Nat.lt_irrefl _)
  · exact absurd (Nat.lt_of_lt_of_le (Heap.lt_size (I.pin p hp).1) (by rw [z]; exact hb)) (Nat.lt_irrefl _)
structure Turn (P:Program) (w:World) (K:PySem.W.Frag) (tg:Expr) (J:It) (fp:List Addr) (it:Addr) (tn:Nat→Heap→Prop):Prop where
  mem:it ∈ fp
  obj:∀ i h,tn i h→∀ b ∈ fp,∃ o,h.get? b = some o∧∀ v,o.data ≠ .cell v
  keep:∀ i h h',tn i h→(∀ b ∈ fp,∀ o,h.get? b = some o→h'.get? b = some o)→tn i h'
  item:∀ (X:Cx),X.prog = P→X.w = w→X.K = K→X.calm = true→∀ (i:Nat) (pins:List (Addr × Obj)) (s:Shared) (σ:St) (H:Hp) (E:Value→Shared→Prop),Inv X pins σ H s→(∀ b ∈ fp,FpOk X pins H b)→tn i s.heap→J.go i H→
    wpAny (model P w) X.A (pyNext (.ref it)) (fun r s1=>∃ u,r = some u∧
      wpAny (model P w) X.A (letOwnedTupleGo tg (.ref it) u) (fun _ s2=>∃ x H',Inv X pins σ H' s2∧RelV x u∧J.yld i H x H'∧tn (i + 1) s2.heap∧∀ b ∈ fp,H' b = none) E s1) E s
  done:∀ (X:Cx),X.prog = P→X.w = w→X.K = K→X.calm = true→∀ (i:Nat) (pins:List (Addr × Obj)) (s:Shared) (σ:St) (H:Hp) (E:Value→Shared→Prop),Inv X pins σ H s→(∀ b ∈ fp,FpOk X pins H b)→tn i s.heap→J.stop i H→
    wpAny (model P w) X.A (pyNext (.ref it)) (fun r s1=>r = none∧Inv X pins σ H s1) E s
  self:∀ (A:Around) (i:Nat) (s:Shared) (Q:Value→Shared→Prop) (E:Value→Shared→Prop),tn i s.heap→Q (.ref it) s→wpAny (model P w) A (pyIter (.ref it)) Q E s
abbrev TI:=St→Hp→(It→Hp→Prop)→Prop
def PIE (X:Cx) (pins:List (Addr × Obj)) (σ:St) (tg:Expr) (R:It→Hp→Prop) (itv:Value) (s2:Shared):Prop:=
  ∃ (it:Addr) (fp:List Addr) (tn:Nat→Heap→Prop) (J:It) (H':Hp),itv = .ref it∧Inv X pins σ H' s2∧Turn X.prog X.w X.K tg J fp it tn∧tn 0 s2.heap∧(∀ b ∈ fp,FpOk X pins H' b)∧R J H'
def PI (X:Cx) (tg iter:Expr) (wi:TI):Prop:=
  ∀ (pins:List (Addr × Obj)) (s:Shared) (σ:St) (H:Hp) (R:It→Hp→Prop),Inv X pins σ H s→wi σ H R→
    wpAny (model X.prog X.w) X.A (eval iter X.env) (fun v s1=>wpAny (model X.prog X.w) X.A (pyIter v) (PIE X pins σ tg R) X.xe s1) X.xe s
theorem go_of {M:Model} {A:Around} {E:Value→Shared→Prop} {s:Shared} {tg:Expr} {it:Addr} {u:Value} {o:Obj} {n:String} {vs:Array Value} {Q:Unit→Shared→Prop} (ho:s.heap.get? it = some o) (hc:o.cls = .type n) (hd:o.data = .fields vs)
    (hn : ["enumerate", "zip", "dict_itemiterator", "dict_reverseitemiterator", "odict_iterator", "itertools.zip_longest", "itertools.pairwise"].contains n = false) (hQ : Q () s) : wpAny M A (letOwnedTupleGo tg (.ref it) u) Q E s := by
  unfold letOwnedTupleGo
  cases tg <;> first
    | exact wpAny_pure hQ
    | (cases u <;> first
        | exact wpAny_pure hQ
        | (refine wpAny_bind (wpAny_load ho ?_)
           rw [hc,hd]
           show wpAny M A (if (["enumerate", "zip", "dict_itemiterator", "dict_reverseitemiterator", "odict_iterator", "itertools.zip_longest", "itertools.pairwise"].contains n && vs[0]? == some (rawInt _)) = true then _ else _) Q E s
           rw [if_neg (by intro h; rw [hn,Bool.false_and] at h; cases h)]
           exact wpAny_pure hQ))
def Itl (K:PySem.W.Frag) (a:Addr):It:=
  ⟨fun i H=>∃ xs x,SqL K H a xs∧xs[i]? = some x,fun i H x H'=>H' = H∧∀ xs,SqL K H a xs→xs[i]? = some x,fun i H=>∃ xs,SqL K H a xs∧xs.length ≤ i⟩
def Itr (lo:Int) (n:Nat):It:=⟨fun i _=>i < n,fun i H x H'=>H' = H∧x = .int (lo + i),fun i _=>n ≤ i⟩
theorem turn_list {P:Program} {w:World} {K:PySem.W.Frag} {tg:Expr} (a it:Addr):Turn P w K tg (Itl K a) [it] it (fun i h=>h.IsListIter it a i) where
  mem:=by simp
  obj:=fun i h st b hb=>by
    have e:b = it:=by simpa using hb
    subst e
    obtain ⟨o,e,c,d⟩:=st
    exact ⟨o,e,fun v z=>by rw [d] at z; cases z⟩
  keep:=fun i h h' st k=>st.at fun o e=>k it (by simp) o e
  item:=by
    intro X hP hw hK hc i pins s σ H E I hf st hg
    subst hP hw hK
    obtain ⟨xs,x,hq,hx⟩:=hg
    obtain ⟨its,rv,p,hz⟩:=I.list hq
    obtain ⟨u,hu,ru⟩:=rv.get hx
    obtain ⟨f0,f1,f2,f3,f4,f5⟩:=hf it (by simp)
    refine wpAny_pyNext_list_item st p.isList (x:=u) (by simpa using hu) fun h' st' sb=>?_
    have I1:Inv X pins σ H { s with heap:=h' }:=I.turned (t':=s.toks) (fun b o hb e=>(sb.2 b hb).trans e) f0 f1 f3 f4 f5
    obtain ⟨o,e,c,d⟩:=id st'
    exact ⟨u,rfl,go_of (s:={ s with heap:=h' }) e c d (by decide) ⟨x,H,I1,ru,⟨rfl,fun ys hy=>by rw [I.list_inj hy hq]; exact hx⟩,st',fun b hb=>(hf b hb).1⟩⟩
  done:=by
    intro X hP hw hK hc i pins s σ H E I hf st hg
    subst hP hw hK
    obtain ⟨xs,hq,hx⟩:=hg
    obtain ⟨its,rv,p,hz⟩:=I.list hq
    obtain ⟨f0,f1,f2,f3,f4,f5⟩:=hf it (by simp)
    have hl:=rv.length
    exact wpAny_pyNext_list_end (I.ok.hd hc) st p.isList (by simp; omega) fun h' eb=>⟨rfl,I.turned (t':=s.toks) (fun b o hb e=>eb b o hb e) f0 f1 f3 f4 f5⟩
  self:=fun _ _ _ _ _ st h=>wpAny_pyIter_listiter st h
theorem turn_range {P:Program} {w:World} {K:PySem.W.Frag} {tg:Expr} (it:Addr) (lo:Int) (n:Nat):Turn P w K tg (Itr lo n) [it] it (fun i h=>IsRangeIter h it (lo + (i:Nat) * 1) ((n:Int) - (i:Nat)) 1) where
  mem:=by simp
  obj:=fun i h st b hb=>by
    have e:b = it:=by simpa using hb
    subst e
    exact ⟨_,st,fun v z=>by
      have z':Data.fields _ = Data.cell v:=z
      cases z'⟩
  keep:=fun i h h' st k=>k it (by simp) _ st
  item:=by
    intro X hP hw hK hc i pins s σ H E I hf st hg
    subst hP hw hK
    obtain ⟨f0,f1,f2,f3,f4,f5⟩:=hf it (by simp)
    have W:=Walks.range (prog:=X.prog) (w:=X.w) (I.ok.hd hc) it lo 1 n
    refine W.item i s _ _ hg st fun v h' tk hv st' kk=>?_
    obtain ⟨t,rfl⟩:=hv
    have I1:Inv X pins σ H { s with heap:=h',toks:=tk }:=I.turned (fun b o hb e=>kk b o (by simpa using hb) e) f0 f1 f3 f4 f5
    refine ⟨_,rfl,go_of (s:={ s with heap:=h',toks:=tk }) (n:="range_iterator") st' rfl rfl (by decide) ⟨.int (lo + i),H,I1,⟨t,?_⟩,⟨rfl,rfl⟩,st',fun b hb=>(hf b hb).1⟩⟩
    rw [Int.mul_one]
  done:=by
    intro X hP hw hK hc i pins s σ H E I hf st hg
    subst hP hw hK
    obtain ⟨f0,f1,f2,f3,f4,f5⟩:=hf it (by simp)
    exact wpAny_pyNext_range_end (I.ok.hd hc) st (by have:n ≤ i:=hg; omega) fun h' eb=>⟨rfl,I.turned (t':=s.toks) (fun b o hb e=>eb b o hb e) f0 f1 f3 f4 f5⟩
  self:=fun _ _ _ _ _ st h=>wpAny_pyIter_rangeiter st h
section
variable {X:Cx} {tg:Expr}
def iList (K:PySem.W.Frag) (tl:TE):TI:=fun σ H R=>tl σ H fun x H1=>∃ a,x = .ref a∧(∃ xs,SqL K H1 a xs)∧R (Itl K a) H1
theorem pi_list {l:Expr} {tl:TE} (hl:PE X l tl):PI X tg l (iList X.K tl):=by
  intro pins s σ H R I h
  refine thn (hl pins s σ H _ I h) fun v s1 ⟨x,H1,I1,r1,q1⟩=>?_
  obtain ⟨a,e,⟨xs,hq⟩,q⟩:=q1
  subst e
  cases r1
  obtain ⟨its,rv,p,hz⟩:=I1.list hq
  refine wpAny_pyIter_list p.isList ?_
  refine ⟨s1.heap.objs.size,[s1.heap.objs.size],_,_,H1,rfl,I1.kept (t':=s1.toks) fun b o e=>Heap.get?_push_of_some _ e,turn_list a _,⟨_,Heap.get?_push_size _ rfl,rfl,rfl⟩,fun b hb=>?_,q⟩
  have e:b = s1.heap.objs.size:=by simpa using hb
  subst e
  exact I1.fpOk (Nat.le_refl _) (I1.hok.fresh (Nat.le_refl _))
theorem range_it {pins:List (Addr × Obj)} {σ:St} {H:Hp} {s:Shared} {R:It→Hp→Prop} {E:Value→Shared→Prop} {lo hi:Int} {t u v:Tok} {tk:Nat} (I:Inv X pins σ H s) (h1:-(2 ^ 62) ≤ lo) (h2:lo < 2 ^ 62) (h3:-(2 ^ 62) ≤ hi) (h4:hi < 2 ^ 62)
    (q:R (Itr lo (hi - lo).toNat) H):wpAny (model X.prog X.w) X.A (pyIter (.ref s.heap.objs.size)) (PIE X pins σ tg R) E { s with heap:=s.heap.push { cls:=.type "range",data:=.fields #[.int lo t,.int hi u,.int 1 v] },toks:=tk }:=by
  refine wpAny_pyIter_range (IsRange.new ..) (small_one h1 h2 h3 h4) ?_
  have I1:Inv X pins σ H { s with heap:=s.heap.push { cls:=.type "range",data:=.fields #[.int lo t,.int hi u,.int 1 v] },toks:=tk }:=I.kept fun b o e=>Heap.get?_push_of_some _ e
  refine ⟨(s.heap.push { cls := .type "range", data := .fields #[.int lo t, .int hi u, .int 1 v] }).objs.size, [(s.heap.push { cls := .type "range", data := .fields #[.int lo t, .int hi u, .int 1 v] }).objs.size], _, _, H, rfl,
    I1.kept (t':=tk) fun b o e=>Heap.get?_push_of_some _ e,turn_range _ lo (hi - lo).toNat,?_,fun b hb=>?_,q⟩
  · have e1:lo + ((0:Nat):Int) * 1 = lo:=by simp
    have e2:(((hi - lo).toNat:Nat):Int) - ((0:Nat):Int) = Builtin.Range.rangeSize lo hi 1:=by rw [rangeSize_one]; split <;> omega
    show IsRangeIter _ _ (lo + ((0:Nat):Int) * 1) ((((hi - lo).toNat:Nat):Int) - ((0:Nat):Int)) 1
    rw [e1,e2]
    exact Heap.get?_push_size _ rfl
  · have e:b = (s.heap.push { cls:=.type "range",data:=.fields #[.int lo t,.int hi u,.int 1 v] }).objs.size:=by simpa using hb
    subst e
    exact I1.fpOk (Nat.le_refl _) (I1.hok.fresh (Nat.le_refl _))
def iRng1 (ta:TA):TI:=fun σ H R=>ta σ H fun vs H1=>∃ j:Int,vs = [.int j]∧-(2 ^ 62) ≤ j∧j < 2 ^ 62∧R (Itr 0 j.toNat) H1
def iRng2 (ta:TA):TI:=fun σ H R=>ta σ H fun vs H1=>∃ i j:Int,vs = [.int i,.int j]∧(-(2 ^ 62) ≤ i∧i < 2 ^ 62∧-(2 ^ 62) ≤ j∧j < 2 ^ 62)∧R (Itr i (j - i).toNat) H1
theorem pi_range1 {a : Expr} {ta : TA} {p pos : Pos} (hg : Gl X "range") (hm : X.mg "range" = none) (ha : PA X [a] ta) (hs : starEach [a] X.env = [(false, eval a X.env)] := by rfl) : PI X tg (.Call (.Name "range" p) [a] [] pos) (iRng1 ta) := by
  intro pins s σ H R I h
  refine Call_ (ld_blt I hg hm boot_range (PyProof.Rows.callWith_type1 (thn (ha pos pins s σ H _ I h) fun us s1 ⟨vs,H1,I1,r1,q1⟩=>?_) hs rfl))
  obtain ⟨j,e,q1,q2,q⟩:=q1
  subst e
  cases r1 with
  | cons r rr=>
    cases rr
    obtain ⟨t,rfl⟩:=r
    exact call_range_1 (range_it I1 (by omega) (by omega) q1 q2 (by simpa using q))
theorem pi_range2 {a b : Expr} {ta : TA} {p pos : Pos} (hg : Gl X "range") (hm : X.mg "range" = none) (ha : PA X [a, b] ta) (hs : starEach [a, b] X.env = [(false, eval a X.env), (false, eval b X.env)] := by rfl) (hs2 : starEach [b] X.env = [(false, eval b X.env)] := by rfl) :
    PI X tg (.Call (.Name "range" p) [a,b] [] pos) (iRng2 ta):=by
  intro pins s σ H R I h
  refine Call_ (ld_blt I hg hm boot_range (PyProof.Rows.callWith_type1 (thn (ha pos pins s σ H _ I h) fun us s1 ⟨vs,H1,I1,r1,q1⟩=>?_) (by rw [hs,hs2]) (by rw [hs2]; rfl)))
  obtain ⟨i,j,e,⟨q1,q2,q3,q4⟩,q⟩:=q1
  subst e
  cases r1 with
  | cons r rr=>
    cases rr with
    | cons r' rr=>
      cases rr
      obtain ⟨t,rfl⟩:=r
      obtain ⟨t',rfl⟩:=r'
      exact call_range_2 (range_it I1 q1 q2 q3 q4 q)
def tFor (wi:TI) (g:TG) (tb:TS):TS:=fun D σ H=>wi σ H fun J H1=>∃ W:Nat→Nat→St→Hp→Prop,(∃ m,W 0 m σ H1)∧∀ i m σ H,W i m σ H→
  (J.stop i H∧D.nx σ H) ∨ (J.go i H∧∃ N:St→Hp→Prop,(∀ σ' H',N σ' H'→∃ m',m' < m∧W (i + 1) m' σ' H')∧∀ x H',J.yld i H x H'→g x σ H' fun σ2 H2=>tb { D with nx:=N,ct:=N,bk:=D.nx } σ2 H2)
def pinsAt (fp:List Addr) (h:Heap):List (Addr × Obj):=fp.filterMap fun b=>(h.get? b).map fun o=>(b,o)
theorem mem_pinsAt {fp:List Addr} {h:Heap} {b:Addr} {o:Obj} (hb:b ∈ fp) (e:h.get? b = some o):(b,o) ∈ pinsAt fp h:=List.mem_filterMap.mpr ⟨b,hb,by rw [e]; rfl⟩
theorem of_pinsAt {fp:List Addr} {h:Heap} {p:Addr × Obj} (hp:p ∈ pinsAt fp h):p.1 ∈ fp∧h.get? p.1 = some p.2:=by
  obtain ⟨b,hb,e⟩:=List.mem_filterMap.mp hp
  cases q:h.get? b with
  | none=>rw [q] at e; cases e
  | some o=>
    rw [q] at e
    have e':(b,o) = p:=Option.some.inj e
    subst e'
    exact ⟨hb,q⟩
theorem Inv.pinned {pins:List (Addr × Obj)} {σ:St} {H:Hp} {s:Shared} {fp:List Addr} (I:Inv X pins σ H s) (hf:∀ b ∈ fp,FpOk X pins H b) (ho:∀ b ∈ fp,∃ o,s.heap.get? b = some o∧∀ v,o.data ≠ .cell v):Inv X (pins ++ pinsAt fp s.heap) σ H s:=
  I.pins_of fun p hp=>(List.mem_append.mp hp).elim (fun z=>I.pin p (List.mem_append_right _ z)) fun z=>by
    obtain ⟨hb,e⟩:=of_pinsAt z
    obtain ⟨f0,f1,f2,_⟩:=hf p.1 hb
    obtain ⟨o,e',d⟩:=ho p.1 hb
    rw [e] at e'; cases e'
    exact ⟨e,f0,f1,f2,d⟩
theorem Inv.unpinned {pins pl:List (Addr × Obj)} {σ:St} {H:Hp} {s:Shared} (I:Inv X (pins ++ pl) σ H s):Inv X pins σ H s:=I.pins_of fun p hp=>I.pin p (List.mem_append_right _ (List.mem_append_left _ hp))
theorem ps_for {iter:Expr} {body:List Stmt} {wi:TI} {g:TG} {tb:TS} {pos:Pos} (hp:PassesOwn (model X.prog X.w) X.A X.env X.xe) (hc:X.calm = true) (hi:PI X tg iter wi) (hg:PG X tg g) (hb:PSs X body tb)
    (hs:∀ x,foldedSetIterable iter X.env x = pure x:=by intro _; rfl):PS X (.For tg iter body [] pos) (tFor wi g tb):=by
  intro pins s σ H D I h
  refine wpAny_For (thn (hi pins s σ H _ I h) fun v s1 h1=>thn h1 fun itv s2 h2=>?_) hs
  obtain ⟨it,fp,tn,J,H2,e,I2,T,st2,f2,W,⟨m0,w0⟩,turn⟩:=h2
  subst e
  -- what stays true of the iterator's objects through the loop
  have stat:∀ {H':Hp},(∀ b ∈ fp,H' b = none)→∀ b ∈ fp,FpOk X pins H' b:=fun hn b hb=>⟨hn b hb,(f2 b hb).2⟩
  refine codeAny_forLoop_any (fun n s'=>∃ i σ' H',Inv X pins σ' H' s'∧tn i s'.heap∧(∀ b ∈ fp,H' b = none)∧W i n σ' H') ?_ m0 ⟨0,σ,H2,I2,st2,fun b hb=>(f2 b hb).1,w0⟩
  rintro n s3 ⟨i,σ3,H3,I3,st3,fr3,w3⟩
  rcases turn i n σ3 H3 w3 with ⟨stop,qn⟩ | ⟨go,N,hN,step⟩
  · refine wpAny_passesOwn hp (thn (T.done X rfl rfl rfl hc i pins s3 σ3 H3 X.xe I3 (stat fr3) st3 stop) fun r s4 ⟨hr,I4⟩=>?_)
    subst hr
    exact wpAny_execs_nil ⟨σ3,H3,I4,qn⟩
  · refine wpAny_passesOwn hp (thn (T.item X rfl rfl rfl hc i pins s3 σ3 H3 X.xe I3 (stat fr3) st3 go) fun r s4 ⟨u,hr,h4⟩=>?_)
    subst hr
    refine wpAny_passesOwn hp (thn h4 fun _ s5 ⟨x,H5,I5,r5,y5,st5,fr5⟩=>?_)
    have I5':=I5.pinned (stat fr5) (T.obj _ _ st5)
    refine wpAny_passesOwn hp (thn (hg _ s5 σ3 H5 x u _ I5' r5 (step x H5 y5)) fun _ s6 ⟨σ6,H6,I6,q6⟩=>?_)
    refine wpAny_passesOwn hp (thn (hb _ s6 σ6 H6 _ I6 q6) fun f s7 q7=>?_)
    have again:∀ {σ7:St} {H7:Hp},Inv X (pins ++ pinsAt fp s5.heap) σ7 H7 s7→N σ7 H7→∃ m,m < n∧∃ i σ' H',Inv X pins σ' H' s7∧tn i s7.heap∧(∀ b ∈ fp,H' b = none)∧W i m σ' H':=fun {σ7 H7} I7 n7=>by
      obtain ⟨m',hm,w7⟩:=hN σ7 H7 n7
      refine ⟨m',hm,i + 1,σ7,H7,I7.unpinned,T.keep _ _ _ st5 fun b hb o e=>(I7.pin (b,o) (List.mem_append_right _ (List.mem_append_right _ (mem_pinsAt hb e)))).1,fun b hb=>?_,w7⟩
      obtain ⟨o,e,d⟩:=T.obj _ _ st5 b hb
      exact (I7.pin (b,o) (List.mem_append_right _ (List.mem_append_right _ (mem_pinsAt hb e)))).2.1
    cases f with
    | next=>obtain ⟨σ7,H7,I7,n7⟩:=q7; exact again I7 n7
    | cont=>obtain ⟨σ7,H7,I7,n7⟩:=q7; exact again I7 n7
    | brk=>obtain ⟨σ7,H7,I7,q7⟩:=q7; exact ⟨σ7,H7,I7.unpinned,q7⟩
    | ret v=>obtain ⟨x7,σ7,H7,I7,r7,q7⟩:=q7; exact ⟨x7,σ7,H7,I7.unpinned,r7,q7⟩
end
theorem for_list {K:PySem.W.Frag} {a:Addr} {xs:List V} {g:TG} {tb:TS} {D:Ends} {σ:St} {H:Hp} (Pv:Nat→St→Hp→Prop) (h0:Pv 0 σ H) (hl:∀ i σ H,i ≤ xs.length→Pv i σ H→SqL K H a xs)
    (hs:∀ i x σ H,xs[i]? = some x→Pv i σ H→g x σ H fun σ2 H2=>tb { D with nx:=Pv (i + 1),ct:=Pv (i + 1),bk:=D.nx } σ2 H2) (hd:∀ σ H,Pv xs.length σ H→D.nx σ H) :
    ∃ W:Nat→Nat→St→Hp→Prop,(∃ m,W 0 m σ H)∧∀ i m σ H,W i m σ H→
      ((Itl K a).stop i H∧D.nx σ H) ∨ ((Itl K a).go i H∧∃ N:St→Hp→Prop,(∀ σ' H',N σ' H'→∃ m',m' < m∧W (i + 1) m' σ' H')∧∀ x H',(Itl K a).yld i H x H'→g x σ H' fun σ2 H2=>tb { D with nx:=N,ct:=N,bk:=D.nx } σ2 H2):=by
  refine ⟨fun i m σ H=>m = xs.length - i∧i ≤ xs.length∧Pv i σ H,⟨xs.length,by simp,Nat.zero_le _,h0⟩,?_⟩
  rintro i m σ H ⟨rfl,hi,p⟩
  have q:=hl i σ H hi p
  by_cases hlt:i < xs.length
  · refine .inr ⟨⟨xs,xs[i],q,by simp [hlt]⟩,Pv (i + 1),fun σ' H' p'=>⟨xs.length - (i + 1),by omega,rfl,hlt,p'⟩,fun x H' y=>?_⟩
    obtain ⟨e,y⟩:=y
    subst e
    exact hs i x σ _ (y xs q) p
  · have e:i = xs.length:=by omega
    subst e
    exact .inl ⟨⟨xs,q,Nat.le_refl _⟩,hd σ H p⟩
theorem for_range {lo:Int} {n:Nat} {g:TG} {tb:TS} {D:Ends} {σ:St} {H:Hp} (Pv:Nat→St→Hp→Prop) (h0:Pv 0 σ H)
    (hs:∀ i σ H,i < n→Pv i σ H→g (.int (lo + i)) σ H fun σ2 H2=>tb { D with nx:=Pv (i + 1),ct:=Pv (i + 1),bk:=D.nx } σ2 H2) (hd:∀ σ H,Pv n σ H→D.nx σ H) :
    ∃ W:Nat→Nat→St→Hp→Prop,(∃ m,W 0 m σ H)∧∀ i m σ H,W i m σ H→
      ((Itr lo n).stop i H∧D.nx σ H) ∨ ((Itr lo n).go i H∧∃ N:St→Hp→Prop,(∀ σ' H',N σ' H'→∃ m',m' < m∧W (i + 1) m' σ' H')∧∀ x H',(Itr lo n).yld i H x H'→g x σ H' fun σ2 H2=>tb { D with nx:=N,ct:=N,bk:=D.nx } σ2 H2):=by
  refine ⟨fun i m σ H=>m = n - i∧i ≤ n∧Pv i σ H,⟨n,by simp,Nat.zero_le _,h0⟩,?_⟩
  rintro i m σ H ⟨rfl,hi,p⟩
  by_cases hlt:i < n
  · refine .inr ⟨hlt,Pv (i + 1),fun σ' H' p'=>⟨n - (i + 1),by omega,rfl,hlt,p'⟩,fun x H' y=>?_⟩
    obtain ⟨e,y⟩:=y
    subst e y
    exact hs i σ _ hlt p
  · have e:i = n:=by omega
    subst e
    exact .inl ⟨Nat.le_refl _,hd σ H p⟩
abbrev R2:=V→V→Hp→VK→Prop
def OpR (X:Cx) (f:Value→Value→Sem Value) (r:R2):Prop:=
  ∀ (pins:List (Addr × Obj)) (s:Shared) (σ:St) (H:Hp) (x y:V) (v u:Value) (Q:VK),Inv X pins σ H s→RelV x v→RelV y u→r x y H Q→
    wpAny (model X.prog X.w) X.A (f v u) (EP X pins σ Q) X.xe s
def CallR (X:Cx) (f:Value) (r:List V→Hp→VK→Prop):Prop:=
  ∀ (pins:List (Addr × Obj)) (s:Shared) (σ:St) (H:Hp) (xs:List V) (us:List Value) (Q:VK),Inv X pins σ H s→Vals xs us→r xs H Q→
    wpAny (model X.prog X.w) X.A (call f us) (EP X pins σ Q) X.xe s
def tOp (r:R2) (ta tb:TE):TE:=fun σ H Q=>ta σ H fun x H1=>tb σ H1 fun y H2=>r x y H2 Q
def rI (C:Int→Int→Prop) (g:Int→Int→V):R2:=fun x y H Q=>∃ i j,x = .int i∧y = .int j∧C i j∧Q (g i j) H
def rI0 (g:Int→Int→V):R2:=fun x y H Q=>∃ i j,x = .int i∧y = .int j∧Q (g i j) H
section
variable {X:Cx} {a b c:Expr} {ta tb tc:TE} {pos:Pos}
theorem binT (ha:PE X a ta) (hb:PE X b tb) {pins:List (Addr × Obj)} {s:Shared} {σ:St} {H:Hp} {R:V→V→Hp→Prop} (I:Inv X pins σ H s)
    (h:ta σ H fun x H1=>tb σ H1 fun y H2=>R x y H2) {Q:Value→Shared→Prop} {f:Value→Value→Sem Value}
    (hf:∀ v u s2 x y H2,Inv X pins σ H2 s2→RelV x v→RelV y u→R x y H2→wpAny (model X.prog X.w) X.A (f v u) Q X.xe s2) :
    wpAny (model X.prog X.w) X.A (eval a X.env) (fun v s₁=>wpAny (model X.prog X.w) X.A (eval b X.env) (fun u s₂=>wpAny (model X.prog X.w) X.A (f v u) Q X.xe s₂) X.xe s₁) X.xe s:=by
  refine thn (ha pins s σ H _ I h) fun v s1 ⟨x,H1,I1,r1,q1⟩=>?_
  refine thn (hb pins s1 σ H1 _ I1 q1) fun u s2 ⟨y,H2,I2,r2,q2⟩=>?_
  exact hf v u s2 x y H2 I2 r1 r2 q2
theorem pe_op {op:Operator} {r:R2} (ho:OpR X (binaryOp op) r) (ha:PE X a ta) (hb:PE X b tb):PE X (.BinOp a op b pos) (tOp r ta tb):=by
  intro pins s σ H Q I h
  exact wpAny_BinOp (binT ha hb I h fun v u s2 x y H2 I2 rx ry q=>ho pins s2 σ H2 x y v u Q I2 rx ry q)
theorem opI {f:Value→Value→Sem Value} {C:Int→Int→Prop} {g:Int→Int→Int}
    (rule:∀ (i j:Int) (t u:Tok) (s:Shared) (Q:Value→Shared→Prop) (E:Value→Shared→Prop),C i j→Q (.int (g i j) s.toks) { s with toks:=s.toks + 1 }→wpAny (model X.prog X.w) X.A (f (.int i t) (.int j u)) Q E s) :
    OpR X f (rI C fun i j=>.int (g i j)):=by
  intro pins s σ H x y v u Q I rx ry h
  obtain ⟨i,j,rfl,rfl,hc,q⟩:=h
  obtain ⟨t,rfl⟩:=rx
  obtain ⟨t',rfl⟩:=ry
  exact rule i j t t' s _ _ hc ⟨.int (g i j),H,I.tok _,⟨_,rfl⟩,q⟩
theorem opI0 {f:Value→Value→Sem Value} {g:Int→Int→Int}
    (rule:∀ (i j:Int) (t u:Tok) (s:Shared) (Q:Value→Shared→Prop) (E:Value→Shared→Prop),Q (.int (g i j) s.toks) { s with toks:=s.toks + 1 }→wpAny (model X.prog X.w) X.A (f (.int i t) (.int j u)) Q E s) :
    OpR X f (rI0 fun i j=>.int (g i j)):=by
  intro pins s σ H x y v u Q I rx ry h
  obtain ⟨i,j,rfl,rfl,q⟩:=h
  obtain ⟨t,rfl⟩:=rx
  obtain ⟨t',rfl⟩:=ry
  exact rule i j t t' s _ _ ⟨.int (g i j),H,I.tok _,⟨_,rfl⟩,q⟩
theorem opB0 {f:Value→Value→Sem Value} {g:Int→Int→Bool}
    (rule:∀ (i j:Int) (t u:Tok) (s:Shared) (Q:Value→Shared→Prop) (E:Value→Shared→Prop),Q (.bool (g i j)) s→wpAny (model X.prog X.w) X.A (f (.int i t) (.int j u)) Q E s) :
    OpR X f (rI0 fun i j=>.bl (g i j)):=by
  intro pins s σ H x y v u Q I rx ry h
  obtain ⟨i,j,rfl,rfl,q⟩:=h
  obtain ⟨t,rfl⟩:=rx
  obtain ⟨t',rfl⟩:=ry
  exact rule i j t t' s _ _ ⟨.bl (g i j),H,I,rfl,q⟩
def CDiv (i j:Int):Prop:=0 < j∧j < 1073741824
def CMul (i j:Int):Prop:=(-(2 ^ 64) < i∧i < 2 ^ 64) ∨ (-(2 ^ 64) < j∧j < 2 ^ 64)
theorem CMul.ok {i j:Int} (h:CMul i j):IntMulOk i j:=by
  rcases h with ⟨h1,h2⟩ | ⟨h1,h2⟩
  · exact .of_left (intBits_le_64 h1 h2)
  · exact .of_right (intBits_le_64 h1 h2)
theorem two_pow_nn (k:Nat):(0:Int) ≤ 2 ^ k:=by
  rw [two_pow_cast]
  exact Int.natCast_nonneg _
theorem op_add:OpR X (binaryOp .Add) (rI0 fun i j=>.int (i + j)):=opI0 fun _ _ _ _ _ _ _ q=>add_int q
theorem op_sub:OpR X (binaryOp .Sub) (rI0 fun i j=>.int (i - j)):=opI0 fun _ _ _ _ _ _ _ q=>sub_int q
theorem op_fdiv:OpR X (binaryOp .FloorDiv) (rI CDiv fun i j=>.int (i / j)):=opI fun i j _ _ _ _ _ hc q=>by
  have h1:(0:Int) < j:=hc.1
  have h2:j < 1073741824:=hc.2
  exact floordiv_int (by omega) (by rw [Int.fdiv_eq_ediv_of_nonneg i (by omega)]; exact q) (.inl (PyProof.noPylong_small (by omega)))
theorem op_mod:OpR X (binaryOp .Mod) (rI (fun _ j=>0 < j) fun i j=>.int (i % j)):=opI fun i j _ _ _ _ _ hc q=>by
  have h1:(0:Int) < j:=hc
  exact mod_int' (by omega) (by rw [Int.fmod_eq_emod_of_nonneg i (by omega)]; exact q)
theorem op_shr:OpR X (binaryOp .RShift) (rI (fun _ j=>0 ≤ j) fun i j=>.int (i / 2 ^ j.toNat)):=opI fun i j _ _ _ _ _ hc q=>
  rshift_int hc (by rw [Int.fdiv_eq_ediv_of_nonneg i (two_pow_nn _)]; exact q)
end
def scal:V→V→Bool
  | .non,.non=>true | .non,.int _=>true | .int _,.non=>true | .non,.bl _=>true | .bl _,.non=>true | .non,.str _=>true | .str _,.non=>true
  | .int _,.int _=>true | .bl _,.bl _=>true | .str _,.str _=>true | .byt _,.byt _=>true
  | .int _,.str _=>true | .str _,.int _=>true | .bl _,.str _=>true | .str _,.bl _=>true
  | _,_=>false
def rEq:R2:=fun x y H Q=>scal x y = true∧Q (.bl (decide (x = y))) H
def rNe:R2:=fun x y H Q=>scal x y = true∧Q (.bl (!decide (x = y))) H
theorem dec_int {i j:Int}:decide (V.int i = V.int j) = (i == j):=by
  rw [Bool.eq_iff_iff]
  simp
theorem dec_bl {i j:Bool}:decide (V.bl i = V.bl j) = (i == j):=by
  rw [Bool.eq_iff_iff]
  simp
theorem dec_str {i j:Str}:decide (V.str i = V.str j) = (i == j):=by
  rw [Bool.eq_iff_iff]
  simp
theorem dec_byt {i j:Array UInt8}:decide (V.byt i = V.byt j) = (i.toList == j.toList):=by
  rw [Bool.eq_iff_iff]
  cases i
  cases j
  simp
section
variable {X:Cx} {a b c:Expr} {ta tb tc:TE} {pos:Pos}
theorem fin_bl {pins:List (Addr × Obj)} {σ:St} {H:Hp} {s:Shared} {Q:VK} {k k':Bool} (I:Inv X pins σ H s) (q:Q (.bl k) H) (e:k = k'):EP X pins σ Q (.bool k') s:=by
  subst e
  exact ⟨.bl k,H,I,rfl,q⟩
theorem op_eq:OpR X (compareOp .Eq) rEq:=by
  intro pins s σ H x y v u Q I rx ry h
  obtain ⟨hs,q⟩:=h
  cases x with
  | non=>
    cases rx
    cases y with
    | non=>cases ry; exact PySem.EqNone.eq_none_none (fin_bl I q (by simp))
    | bl j=>cases ry; exact PySem.EqNone.eq_none_bool (fin_bl I q (by simp))
    | int j=>obtain ⟨t',rfl⟩:=ry; exact PySem.EqNone.eq_none_int (fin_bl I q (by simp))
    | str j=>obtain ⟨t',rfl⟩:=ry; exact PySem.EqNone.eq_none_str (fin_bl I q (by simp))
    | _=>exact absurd (show false = true from hs) Bool.false_ne_true
  | bl i=>
    cases rx
    cases y with
    | non=>cases ry; exact PySem.EqNone.eq_bool_none (fin_bl I q (by simp))
    | bl j=>cases ry; exact eq_bool (fin_bl I q dec_bl)
    | str j=>obtain ⟨t',rfl⟩:=ry; exact PySem.EqMixed.eq_bool_str (fin_bl I q (by simp))
    | _=>exact absurd (show false = true from hs) Bool.false_ne_true
  | int i=>
    obtain ⟨t,rfl⟩:=rx
    cases y with
    | non=>cases ry; exact PySem.EqNone.eq_int_none (fin_bl I q (by simp))
    | int j=>obtain ⟨t',rfl⟩:=ry; exact eq_int (fin_bl I q dec_int)
    | str j=>obtain ⟨t',rfl⟩:=ry; exact PySem.EqMixed.eq_int_str (fin_bl I q (by simp))
    | _=>exact absurd (show false = true from hs) Bool.false_ne_true
  | str i=>
    obtain ⟨t,rfl⟩:=rx
    cases y with
    | non=>cases ry; exact PySem.EqNone.eq_str_none (fin_bl I q (by simp))
    | bl j=>cases ry; exact PySem.EqMixed.eq_str_bool (fin_bl I q (by simp))
    | int j=>obtain ⟨t',rfl⟩:=ry; exact PySem.EqMixed.eq_str_int (fin_bl I q (by simp))
    | str j=>obtain ⟨t',rfl⟩:=ry; exact eq_str (fin_bl I q dec_str)
    | _=>exact absurd (show false = true from hs) Bool.false_ne_true
  | byt i=>
    obtain ⟨t,rfl⟩:=rx
    cases y with
    | byt j=>obtain ⟨t',rfl⟩:=ry; exact PySem.W.eq_bytes (fin_bl I q dec_byt)
    | _=>exact absurd (show false = true from hs) Bool.false_ne_true
  | _=>cases y <;> exact absurd (show false = true from hs) Bool.false_ne_true
theorem op_ne:OpR X (compareOp .NotEq) rNe:=by
  intro pins s σ H x y v u Q I rx ry h
  obtain ⟨hs,q⟩:=h
  cases x with
  | non=>
    cases rx
    cases y with
    | non=>cases ry; exact PySem.EqNone.ne_none_none (fin_bl I q (by simp))
    | bl j=>cases ry; exact PySem.EqNone.ne_none_bool (fin_bl I q (by simp))
    | int j=>obtain ⟨t',rfl⟩:=ry; exact PySem.EqNone.ne_none_int (fin_bl I q (by simp))
    | str j=>obtain ⟨t',rfl⟩:=ry; exact PySem.EqNone.ne_none_str (fin_bl I q (by simp))
    | _=>exact absurd (show false = true from hs) Bool.false_ne_true
  | bl i=>
    cases rx
    cases y with
    | non=>cases ry; exact PySem.EqNone.ne_bool_none (fin_bl I q (by simp))
    | bl j=>cases ry; exact ne_bool (fin_bl I q (congrArg not dec_bl))
    | str j=>obtain ⟨t',rfl⟩:=ry; exact PySem.EqMixed.ne_bool_str (fin_bl I q (by simp))
    | _=>exact absurd (show false = true from hs) Bool.false_ne_true
  | int i=>
    obtain ⟨t,rfl⟩:=rx
    cases y with
    | non=>cases ry; exact PySem.EqNone.ne_int_none (fin_bl I q (by simp))
    | int j=>obtain ⟨t',rfl⟩:=ry; exact ne_int (fin_bl I q (congrArg not dec_int))
    | str j=>obtain ⟨t',rfl⟩:=ry; exact PySem.EqMixed.ne_int_str (fin_bl I q (by simp))
    | _=>exact absurd (show false = true from hs) Bool.false_ne_true
  | str i=>
    obtain ⟨t,rfl⟩:=rx
    cases y with
    | non=>cases ry; exact PySem.EqNone.ne_str_none (fin_bl I q (by simp))
    | bl j=>cases ry; exact PySem.EqMixed.ne_str_bool (fin_bl I q (by simp))
    | int j=>obtain ⟨t',rfl⟩:=ry; exact PySem.EqMixed.ne_str_int (fin_bl I q (by simp))
    | str j=>obtain ⟨t',rfl⟩:=ry; exact ne_str (fin_bl I q (congrArg not dec_str))
    | _=>exact absurd (show false = true from hs) Bool.false_ne_true
  | byt i=>
    obtain ⟨t,rfl⟩:=rx
    cases y with
    | byt j=>obtain ⟨t',rfl⟩:=ry; exact PySem.W.ne_bytes (fin_bl I q (congrArg not dec_byt))
    | _=>exact absurd (show false = true from hs) Bool.false_ne_true
  | _=>cases y <;> exact absurd (show false = true from hs) Bool.false_ne_true
theorem op_lt:OpR X (compareOp .Lt) (rI0 fun i j=>.bl (decide (i < j))):=opB0 fun _ _ _ _ _ _ _ q=>lt_int q
theorem op_le:OpR X (compareOp .LtE) (rI0 fun i j=>.bl (decide (i ≤ j))):=opB0 fun _ _ _ _ _ _ _ q=>le_int q
theorem op_gt:OpR X (compareOp .Gt) (rI0 fun i j=>.bl (decide (j < i))):=opB0 fun _ _ _ _ _ _ _ q=>gt_int q
theorem op_ge:OpR X (compareOp .GtE) (rI0 fun i j=>.bl (decide (j ≤ i))):=opB0 fun _ _ _ _ _ _ _ q=>ge_int q
theorem pe_cmpR {op:CmpOp} {r:R2} (ho:OpR X (compareOp op) r) (ha:PE X a ta) (hb:PE X b tb) (hm:behindInMarks op b = false):PE X (.Compare a [op] [b] pos) (tOp r ta tb):=by
  intro pins s σ H Q I h
  exact wpAny_Compare1 (binT ha hb I h fun v u s2 x y H2 I2 rx ry q=>ho pins s2 σ H2 x y v u Q I2 rx ry q) hm
def tTest (t:TE):TT:=fun σ H Q=>t σ H fun x H'=>∃ k,x = .bl k∧Q k H'
theorem pt_cmpR {op:CmpOp} {r:R2} (ho:OpR X (compareOp op) r) (ha:PE X a ta) (hb:PE X b tb) (hm:behindInMarks op b = false):PT X (.Compare a [op] [b] pos) (tTest (tOp r ta tb)):=by
  intro pins s σ H Q I h
  refine wpAny_isTrue_Compare1 (thn (ha pins s σ H _ I h) fun v s1 ⟨x,H1,I1,r1,q1⟩=>thn (hb pins s1 σ H1 _ I1 q1) fun u s2 ⟨y,H2,I2,r2,q2⟩=>
    thn (ho pins s2 σ H2 x y v u _ I2 r1 r2 q2) fun c s3 ⟨z,H3,I3,r3,k,e,q3⟩=>?_) hm
  subst e
  cases r3
  exact wpAny_truthy_bool ⟨H3,I3,q3⟩
theorem line63:(sizeLine:Nat) < 2 ^ 63:=by rw [sizeLine_eq]; decide
theorem op_add_str:OpR X (binaryOp .Add) (fun x y H Q=>∃ i j,x = .str i∧y = .str j∧i.length + j.length ≤ sizeLine∧Q (.str (i ++ j)) H):=by
  intro pins s σ H x y v u Q I rx ry h
  obtain ⟨i,j,rfl,rfl,hz,q⟩:=h
  obtain ⟨t,rfl⟩:=rx
  obtain ⟨t',rfl⟩:=ry
  exact add_str (fun t' tk=>⟨.str (i ++ j),H,I.tok _,⟨_,rfl⟩,q⟩) hz
theorem vals1 {x:V} {us:List Value} (r:Vals [x] us):∃ u,us = [u]∧RelV x u:=by
  cases r with
  | cons r1 r2=>cases r2; exact ⟨_,rfl,r1⟩
theorem vals2 {x y:V} {us:List Value} (r:Vals [x,y] us):∃ u w',us = [u,w']∧RelV x u∧RelV y w':=by
  cases r with
  | cons r1 r2=>
    cases r2 with
    | cons r3 r4=>cases r4; exact ⟨_,_,rfl,r1,r3⟩
theorem call_min2 (hc:X.calm = true):CallR X (.builtin "min") (fun xs H Q=>∃ i j,xs = [.int i,.int j]∧Q (.int (if j < i then j else i)) H):=by
  intro pins s σ H xs us Q I r h
  obtain ⟨i,j,rfl,q⟩:=h
  obtain ⟨u,w',rfl,⟨t,rfl⟩,⟨t',rfl⟩⟩:=vals2 r
  refine min_two_ints (I.ok.hd hc) fun h' tk k=>⟨_,H,I.kept k,?_,q⟩
  by_cases hj:j < i
  · rw [if_pos hj,if_pos hj]; exact ⟨_,rfl⟩
  · rw [if_neg hj,if_neg hj]; exact ⟨_,rfl⟩
theorem call_int1:CallR X (.type "int") (fun xs H Q=>(∃ i,xs = [.int i]∧Q (.int i) H) ∨ ∃ k,xs = [.bl k]∧Q (.int (if k then 1 else 0)) H):=by
  intro pins s σ H xs us Q I r h
  rcases h with ⟨i,rfl,q⟩ | ⟨k,rfl,q⟩
  · obtain ⟨u,rfl,t,rfl⟩:=vals1 r
    exact call_int_int ⟨.int i,H,I,⟨_,rfl⟩,q⟩
  · obtain ⟨u,rfl,r1⟩:=vals1 r
    cases r1
    exact call_int_bool ⟨.int (if k then 1 else 0),H,I.tok _,⟨_,rfl⟩,q⟩
end
structure ObjM (h:Heap) (x dx C:Addr) (mA:Str→Option Value):Prop where
  obj:h.get? x = some (PySem.W.instObj C dx)
  ns:h.Ns1 dx mA
  ne:dx ≠ x
theorem lookIn_ns {h:Heap} {dx:Addr} {mA:Str→Option Value} (n:h.Ns1 dx mA):∃ od,h.get? dx = some od∧∀ name,PySem.W.lookIn name od = some (mA name):=by
  obtain ⟨o,es,ep,ho,hd,hk,_,hm⟩:=n
  refine ⟨o,ho,fun name=>?_⟩
  have e:=hm name
  unfold nsFind findBy at e
  rw [← Array.find?_toList] at e
  unfold PySem.W.lookIn
  rw [hd]
  dsimp only
  split
  · rename_i y q
    rw [q] at e
    exact congrArg some e
  · rename_i q
    rw [q] at e
    have a:es.toList.any (·.refKey) = false:=by
      rw [List.any_eq_false]
      intro y hy
      obtain ⟨z,t,hkey⟩:=hk y (Array.mem_toList_iff.mp hy)
      simp [DictEntry.refKey,hkey]
    have a':¬ es.toList.any (·.refKey) = true:=by rw [a]; exact Bool.false_ne_true
    rw [if_neg a']
    exact congrArg some e
theorem ObjM.look {h:Heap} {x dx C:Addr} {mA:Str→Option Value} (I:ObjM h x dx C mA):∃ od,PySem.W.InstAt h x (PySem.W.instObj C dx) C (some od)∧∀ name,PySem.W.lookIn name od = some (mA name):=
  let ⟨od,ho,hl⟩:=lookIn_ns I.ns
  ⟨od,⟨I.obj,rfl,rfl,ho⟩,hl⟩
theorem RelO.some_of {v:V} {o:Option Value} (r:RelO (some v) o):∃ u,o = some u∧RelV v u:=by
  cases o with
  | none=>exact (show False from r).elim
  | some u=>exact ⟨u,rfl,r⟩
section
variable {P:Program} {w:World} {H H':Hp} {h h':Heap} {a C dx:Addr} {fs fs':List (Str × V)}
theorem ins_get (hok:HOk P w H h) (e:H a = some (.ins C dx fs)):∃ mA,ObjM h a dx C mA∧(∀ f,RelO (fs.lookup f) (mA f))∧PySem.Within mA (fs.map (·.1))∧fs.length ≤ 1000∧H dx = some (.own a):=by
  obtain ⟨d,z,ne,ob,mA,n,r,q⟩:=(show ObjOk P w H h a (.ins C dx fs) from hok a _ e)
  exact ⟨mA,⟨ob,n,ne⟩,r,q,z,d⟩
end
structure Cls (K:PySem.W.Frag) (C:Addr):Prop where
  pg:PySem.W.plainGet K C Str.empty = true
  hd:PySem.W.hasDictIn K C = true
  po:PySem.W.plainOver K C = true
  sa:PySem.W.findIn K (.ref C) "__setattr__" = some (some (.builtin "object.__setattr__"))
theorem Cls.get {K:PySem.W.Frag} {C:Addr} (c:Cls K C) (f:Str):PySem.W.plainGet K C f = true:=c.pg
section
variable {X:Cx} {pins:List (Addr × Obj)} {σ:St} {H:Hp} {s:Shared} {A:Around} {E:Value→Shared→Prop} {Q:Value→Shared→Prop} {c:Value} {b:Bool}
inductive TyOf (K:PySem.W.Frag) (H:Hp):V→Value→Prop where
  | non:TyOf K H .non (.type "NoneType")
  | bl (x:Bool):TyOf K H (.bl x) (.type "bool")
  | int (i:Int):TyOf K H (.int i) (.type "int")
  | str (x:Str):TyOf K H (.str x) (.type "str")
  | flt (x:UInt64):TyOf K H (.flt x) (.type "float")
  | lst {a:Addr} {xs:List V} (e:H a = some (.lst xs)):TyOf K H (.ref a) (.type "list")
  | frz {a:Addr} {o:Obj} {xs:List V} (e:H a = some (.frz o (.lst xs))):TyOf K H (.ref a) (.type "list")
  | tup {a:Addr} {xs:List V} (e:H a = some (.tup xs)):TyOf K H (.ref a) (.type "tuple")
  | dK {a:Addr} {kvs:List (Key × V)} (e:H a = some (.dK kvs)):TyOf K H (.ref a) (.type "dict")
  | dT {a:Addr} {kvs:List (List Key × V)} (e:H a = some (.dT kvs)):TyOf K H (.ref a) (.type "dict")
  | ins {a C dx:Addr} {fs:List (Str × V)} (e:H a = some (.ins C dx fs)) (cl:Cls K C) (ha:PySem.W.findIn K (.ref C) "__class__" = some (some (.builtin "object.__class__")))
      (hn : PySem.W.specialIn K (.builtin "object.__class__") "__get__" = some (some (.builtin "getset_descriptor.__get__"))) (htk : PySem.W.takesIn K (.builtin "object.__class__") = some true)
      (hm:PySem.W.mroIn K C (.type "object") = some true):TyOf K H (.ref a) (.ref C)
theorem isinst_ok {x:V} {u t:Value} (I:Inv X pins σ H s) (rx:RelV x u) (ty:TyOf X.K H x t) (e:PySem.W.kitOne X.K t c = some b) (h:∀ tk,Q (.bool b) { s with toks:=tk }) :
    wpAny (model X.prog X.w) A (call (.builtin "isinstance") [u,c]) Q E s:=by
  cases ty with
  | non=>cases (show u = Value.none from rx); exact PySem.W.kia_one PySem.W.kitx_none I.kIn True.intro e (fun z=>nomatch z) h
  | bl y=>cases (show u = Value.bool y from rx); exact PySem.W.kia_one PySem.W.kitx_bool I.kIn True.intro e (fun z=>nomatch z) h
  | int i=>obtain ⟨t,q⟩:=(show ∃ t,u = Value.int i t from rx); cases q; exact PySem.W.kia_one PySem.W.kitx_int I.kIn True.intro e (fun z=>nomatch z) h
  | str y=>obtain ⟨t,q⟩:=(show ∃ t,u = Value.str y t from rx); cases q; exact PySem.W.kia_one PySem.W.kitx_str I.kIn True.intro e (fun z=>nomatch z) h
  | flt y=>obtain ⟨t,q⟩:=(show ∃ t,u = Value.float y t from rx); cases q; exact PySem.W.kia_one PySem.W.kitx_float I.kIn True.intro e (fun z=>nomatch z) h
  | @lst a xs ea=>
    cases (show u = Value.ref a from rx)
    obtain ⟨_,_,n,_,h1⟩:=(show ObjOk X.prog X.w H s.heap a (.lst xs) from I.hok a _ ea)
    exact PySem.W.kia_one PySem.W.kitx_list I.kIn ⟨_,h1,rfl⟩ e (fun z=>nomatch z) h
  | @frz a ob xs ea=>
    cases (show u = Value.ref a from rx)
    obtain ⟨_,_,_,n,_,h1⟩:=(show ObjOk X.prog X.w H s.heap a (.frz ob (.lst xs)) from I.hok a _ ea)
    exact PySem.W.kia_one PySem.W.kitx_list I.kIn ⟨_,h1,rfl⟩ e (fun z=>nomatch z) h
  | @tup a xs ea=>
    cases (show u = Value.ref a from rx)
    obtain ⟨_,_,_,p⟩:=(show ObjOk X.prog X.w H s.heap a (.tup xs) from I.hok a _ ea)
    obtain ⟨o,h1,h2,_⟩:=p
    exact PySem.W.kia_one PySem.W.kitx_tuple I.kIn ⟨o,h1,h2⟩ e (fun z=>nomatch z) h
  | @dK a kvs ea=>
    cases (show u = Value.ref a from rx)
    obtain ⟨_,_,vs,_,p⟩:=(show ObjOk X.prog X.w H s.heap a (.dK kvs) from I.hok a _ ea)
    obtain ⟨o,es,ep,h1,h2,_⟩:=p
    exact PySem.W.kia_one PySem.W.kitx_dict I.kIn ⟨o,h1,h2.1⟩ e (fun z=>nomatch z) h
  | @dT a kvs ea=>
    cases (show u = Value.ref a from rx)
    obtain ⟨_,_,xs,_,o,es,ep,h1,h2,_⟩:=(show ObjOk X.prog X.w H s.heap a (.dT kvs) from I.hok a _ ea)
    exact PySem.W.kia_one PySem.W.kitx_dict I.kIn ⟨o,h1,h2.1⟩ e (fun z=>nomatch z) h
  | @ins a C dx fs ea cl ha hn htk hm=>
    cases (show u = Value.ref a from rx)
    obtain ⟨mA,O,_⟩:=ins_get I.hok ea
    obtain ⟨od,J,_⟩:=O.look
    exact PySem.W.kia_one (PySem.W.kitx_own (cl.get _) cl.hd ha hn htk hm) I.kIn J e (fun z=>nomatch z) h
end
structure Room (k:Nat) (A:Around):Prop where
  hd:A.handled = none
  dp:A.depth + 3 * k + 5 < recursionLimit
  un:A.units + 16 * k + 200 < cLine
theorem Room.mono {j k:Nat} {A:Around} (r:Room k A) (h:j ≤ k):Room j A:=⟨r.hd,by have:=r.dp; omega,by have:=r.un; omega⟩
theorem Room.deeper {k:Nat} {A:Around} (r:Room (k + 1) A) (env:Env):Room k (A.deeper env):=
  ⟨r.hd,by have:=r.dp; show A.depth + 1 + 3 * k + 5 < _; omega,by have:=r.un; show A.units + 3 + 16 * k + 200 < _; omega⟩
theorem Room.depth {k:Nat} {A:Around} (r:Room k A):A.depth < recursionLimit:=by have:=r.dp; omega
theorem Room.units {k:Nat} {A:Around} (r:Room k A):A.units + 64 < cLine:=by have:=r.un; omega
def tNil:TA:=fun _ H Q=>Q [] H
def tCons (ta:TE) (tr:TA):TA:=fun σ H Q=>ta σ H fun x H1=>tr σ H1 fun xs H2=>Q (x :: xs) H2
section
variable {X:Cx} {e:Expr} {es:List Expr} {te:TE} {t:TA} {pos:Pos}
theorem pa_nil:PA X [] tNil:=fun _ _ _ _ H Q I h=>Calls.spliced_nil ⟨[],H,I,.nil,h⟩
theorem pa_cons (ha:PE X e te) (hr:PA X es t) (hs:starEach (e :: es) X.env = (false,eval e X.env) :: starEach es X.env:=by rfl):PA X (e :: es) (tCons te t):=by
  intro pos pins s σ H Q I h
  rw [hs]
  show wpAny _ _ (spliced ((false,eval e X.env) :: backTo pos (starEach es X.env))) _ _ s
  refine Calls.spliced_cons (thn (ha pins s σ H _ I h) fun u s1 ⟨x,H1,I1,r1,q1⟩=>?_)
  exact thn (hr pos pins s1 σ H1 _ I1 q1) fun us s2 ⟨xs,H2,I2,r2,q2⟩=>⟨x :: xs,H2,I2,.cons r1 r2,q2⟩
def tTup (t:TA):TE:=fun σ H Q=>t σ H fun xs H1=>xs.length ≤ sizeLine∧∀ p,H1 p = none→Q (.ref p) (upd H1 p (.tup xs))
def tLst (t:TA):TE:=fun σ H Q=>t σ H fun xs H1=>xs.length ≤ sizeLine∧∀ p,H1 p = none→Q (.ref p) (upd H1 p (.lst xs))
theorem pe_tup {x1} (h:PA X es t):PE X (.Tuple es x1 pos) (tTup t):=by
  intro pins s σ H Q I hq
  refine wpAny_Tuple_spliced (thn (h pos pins s σ H _ I hq) fun us s1 ⟨xs,H1,I1,r,z,q⟩=>⟨by rw [← r.length]; exact z,?_⟩)
  have hf:H1 s1.heap.objs.size = none:=I1.hok.fresh (Nat.le_refl _)
  refine ⟨.ref s1.heap.objs.size,upd H1 s1.heap.objs.size (.tup xs),I1.laid (t':=s1.toks) (fun b u e=>Heap.get?_push_of_some _ e) (Nat.le_refl _) ?_,rfl,q _ hf⟩
  exact ⟨z,us,r,⟨_,Heap.get?_push_size _ rfl,rfl,_,rfl⟩⟩
theorem pe_lst (h:PA X es t):PE X (.List es pos) (tLst t):=by
  intro pins s σ H Q I hq
  refine wpAny_List_spliced (thn (h pos pins s σ H _ I hq) fun us s1 ⟨xs,H1,I1,r,z,q⟩=>⟨by rw [← r.length]; exact z,?_⟩)
  have hf:H1 s1.heap.objs.size = none:=I1.hok.fresh (Nat.le_refl _)
  refine ⟨.ref s1.heap.objs.size,upd H1 s1.heap.objs.size (.lst xs),I1.laid (t':=s1.toks) (fun b u e=>Heap.get?_push_of_some _ e) (Nat.le_refl _) ?_,rfl,q _ hf⟩
  exact ⟨z,us,0,r,Heap.get?_push_size _ rfl⟩
end
abbrev Sp:=List V→Hp→VK→XK→Prop
abbrev CXT:=List Env→Hp→Shared→XK→Value→Shared→Prop
structure Env0 (P:Program) (w:World) (K:PySem.W.Frag) (mg:Str→Option Value) (base:Heap) (A:Around) (outer:List Env) (s:Shared) (H:Hp):Prop where
  frames:A.frames = some outer
  mod:Mod K mg base
  bs:∀ b o,base.get? b = some o→s.heap.get? b = some o∧H b = none
  bsz:base.objs.size ≤ s.heap.objs.size
  funs:s.heap.FunFrames base outer
  frf:∀ b ∈ frs outer,H b = none
  hok:HOk P w H s.heap
  bare:AllBare s.gens
def CE (outer:List Env) (P:Program) (w:World) (H:Hp) (s:Shared) (Q:VK) (u:Value) (s':Shared):Prop:=
  ∃ v H',s'.os = s.os∧AllBare s'.gens∧Un (frs outer) [] H H' s.heap s'.heap∧HOk P w H' s'.heap∧RelV v u∧Q v H'
def CR (CX:CXT) (outer:List Env) (P:Program) (w:World) (H:Hp) (s:Shared) (Q:VK) (E:XK) (r:Result) (s':Shared):Prop:=
  match r with
  | .ok (.ret u)=>CE outer P w H s Q u s'
  | .ok _=>False
  | .error e=>CX outer H s E e s'
structure FnOk (P:Program) (w:World) (K:PySem.W.Frag) (mg:Str→Option Value) (base:Heap) (CX:CXT) (k:Nat) (f:Addr) (fd:FuncData) (ps:List Str) (sp:Sp):Prop where
  len:∀ vs H Q E,sp vs H Q E→vs.length = ps.length
  run:∀ (A:Around) (outer:List Env) (s:Shared) (H:Hp) (args:Args) (us:List Value) (vs:List V) (Q:VK) (E:XK),Room k A→Env0 P w K mg base A outer s H→BindsTo s fd args (ps.zip us)→Vals vs us→sp vs H Q E→
    codeAny (model P w) A (.call (.ref f) args) (CR CX outer P w H s Q E) s
section
variable {X:Cx} {pins:List (Addr × Obj)} {σ:St} {H:Hp} {s s':Shared}
theorem Inv.env0 (I:Inv X pins σ H s):Env0 X.prog X.w X.K X.mg X.base X.A X.stack s H:=
  ⟨I.ok.frames,I.ok.mod,I.bs,Nat.le_trans I.ok.bsz I.sz,I.stack,I.stkFree,I.hok,I.bare⟩
theorem Inv.after {Q:VK} {u:Value} (I:Inv X pins σ H s) (h:CE X.stack X.prog X.w H s Q u s'):EP X pins σ Q u s':=by
  obtain ⟨v,H',os,bare,un,hok,r,q⟩:=h
  obtain ⟨hh,g,d,t,os'⟩:=s'
  obtain rfl:os' = s.os:=os
  exact ⟨v,H',I.call (h':=hh) (g':=g) (d':=d) (t':=t) (ch:=[]) un hok bare (fun b z=>absurd z (by simp)),r,q⟩
end
def tCall (sp:Sp) (dvs:List V) (E:XK) (t:TA):TE:=fun σ H Q=>t σ H fun vs H1=>sp (vs ++ dvs) H1 Q E
def Binds (K:PySem.W.Frag) (fd:FuncData) (ps:List Str) (ds:List Value):Prop:=
  ∀ (s:Shared) (us:List Value),K.In s.heap→(us ++ ds).length = ps.length→BindsTo s fd ⟨us,[]⟩ (ps.zip (us ++ ds))
theorem Binds.all {K:PySem.W.Frag} {fd:FuncData} {ps:List Str} (h:∀ us:List Value,us.length = ps.length→bindArgs fd ⟨us,[]⟩ = pure (ps.zip us)):Binds K fd ps []:=fun s us _ hl=>by
  rw [List.append_nil] at hl ⊢
  exact .of_eq (h us hl)
def Passes (CX:CXT) (X:Cx) (E:XK):Prop:=∀ (pins:List (Addr × Obj)) (σ:St) (H:Hp) (s:Shared) (e:Value) (s':Shared),Inv X pins σ H s→CX X.stack H s E e s'→X.xe e s'
section
variable {X:Cx} {CX:CXT} {k:Nat} {f C:Addr} {fd:FuncData} {ps:List Str} {sp:Sp} {dvs:List V} {ds:List Value} {E:XK} {x m:Str} {p pos apos:Pos} {e o:Expr} {es:List Expr} {ta:TE} {t:TA}
theorem run_fn {pins:List (Addr × Obj)} {σ:St} {H:Hp} {s:Shared} {Q:VK} {us:List Value} {vs:List V} (F:FnOk X.prog X.w X.K X.mg X.base CX k f fd ps sp) (hr:Room k X.A) (hb:Binds X.K fd ps ds) (hd:Vals dvs ds) (hx:Passes CX X E)
    (I:Inv X pins σ H s) (r:Vals vs us) (h:sp (vs ++ dvs) H Q E):wpAny (model X.prog X.w) X.A (call (.ref f) us) (EP X pins σ Q) X.xe s:=by
  have r2:Vals (vs ++ dvs) (us ++ ds):=r.append hd
  have hl:(us ++ ds).length = ps.length:=by rw [← r2.length]; exact F.len _ _ _ _ h
  refine wpAny_call (codeAny_mono (F.run X.A X.stack s H ⟨us,[]⟩ (us ++ ds) (vs ++ dvs) Q E hr I.env0 (hb s us I.kIn hl) r2 h) fun r s' hq=>?_)
  cases r with
  | error e=>exact hx pins σ H s e s' I hq
  | ok fl=>
    cases fl with
    | ret u=>exact I.after hq
    | next=>exact False.elim hq
    | brk=>exact False.elim hq
    | cont=>exact False.elim hq
theorem pe_call (F:FnOk X.prog X.w X.K X.mg X.base CX k f fd ps sp) (hr:Room k X.A) (hg:Gl X x) (hm:X.mg x = some (.ref f)) (hk:PySem.W.keepIn X.K (.ref f) = true) (hb:Binds X.K fd ps ds) (hd:Vals dvs ds) (hx:Passes CX X E)
    (ha:PA X (e :: es) t) (hdb:(x == ("__debug__":Str)) = false:=by decide) (he:starEach (e :: es) X.env = (false,eval e X.env) :: starEach es X.env:=by rfl) (hpl:(backTo pos (starEach es X.env)).any (·.1) = false:=by rfl) :
    PE X (.Call (.Name x p) (e :: es) [] pos) (tCall sp dvs E t):=by
  intro pins s σ H Q I h
  refine wpAny_Call_Name_kw (ld_glob I hg hm ?_ hdb)
  refine PySem.W.callWith_K (h₀:=X.base) I.ok.mod.kin hk (thn (ha pos pins s σ H _ I h) fun us s1 ⟨vs,H1,I1,r,q⟩=>⟨I1.kIn,?_⟩) he hpl
  exact run_fn F hr hb hd hx I1 r q
end
structure FnScope (N P:List Str) (sc:Scope):Prop where
  kind:sc.kind = .function
  co:sc.isCoroutine = false
  gen:sc.isGenerator = false
  nd:N.Nodup
  pre:N.take P.length = P
  par:∀ x ∈ P,sc.names.lookup x = some .local ∨ sc.names.lookup x = some .cell
  nofree:∀ y ∈ sc.names,y.2 ≠ .free
theorem bindL_out {kindOf:Str→Option NameKind} {x:Str}:∀ {binds:List (Str × Value)} {m:Str→Option Value},(∀ v,(x,v) ∉ binds)→bindL kindOf binds m x = m x
  | [],_,_=>rfl
  | (n,v) :: r,m,h=>by
    unfold bindL
    rw [bindL_out fun w hw=>h w (List.mem_cons_of_mem _ hw)]
    split
    · have:x ≠ n:=by rintro rfl; exact h v List.mem_cons_self
      simp [this]
    · rfl
theorem bindC_out {kindOf:Str→Option NameKind} {x:Str}:∀ {binds:List (Str × Value)} {m:Str→Option Value},(∀ v,(x,v) ∉ binds)→bindC kindOf binds m x = m x
  | [],_,_=>rfl
  | (n,v) :: r,m,h=>by
    unfold bindC
    rw [bindC_out fun w hw=>h w (List.mem_cons_of_mem _ hw)]
    split
    · rfl
    · have:x ≠ n:=by rintro rfl; exact h v List.mem_cons_self
      simp [this]
theorem bindL_get {kindOf:Str→Option NameKind} {x:Str} {v:Value}:∀ {P:List Str} {vs:List Value} {i:Nat} {m:Str→Option Value},P.Nodup→P[i]? = some x→vs[i]? = some v→kindOf x = some .local→
    bindL kindOf (P.zip vs) m x = some v
  | [],_,_,_,_,h,_,_=>by simp at h
  | _ :: _,[],_,_,_,_,h,_=>by simp at h
  | p :: P,w :: vs,0,m,nd,h1,h2,hk=>by
    simp at h1 h2; subst h1; subst h2
    show bindL kindOf ((p,w) :: P.zip vs) m p = _
    unfold bindL
    rw [bindL_out fun v hv=>(List.nodup_cons.mp nd).1 (List.of_mem_zip hv).1,if_pos hk]
    simp
  | p :: P,w :: vs,i + 1,m,nd,h1,h2,hk=>by
    show bindL kindOf ((p,w) :: P.zip vs) m x = _
    unfold bindL
    exact bindL_get (i:=i) (List.nodup_cons.mp nd).2 (by simpa using h1) (by simpa using h2) hk
theorem bindC_get {kindOf:Str→Option NameKind} {x:Str} {v:Value}:∀ {P:List Str} {vs:List Value} {i:Nat} {m:Str→Option Value},P.Nodup→P[i]? = some x→vs[i]? = some v→kindOf x ≠ some .local→
    bindC kindOf (P.zip vs) m x = some v
  | [],_,_,_,_,h,_,_=>by simp at h
  | _ :: _,[],_,_,_,_,h,_=>by simp at h
  | p :: P,w :: vs,0,m,nd,h1,h2,hk=>by
    simp at h1 h2; subst h1; subst h2
    show bindC kindOf ((p,w) :: P.zip vs) m p = _
    unfold bindC
    rw [bindC_out fun v hv=>(List.nodup_cons.mp nd).1 (List.of_mem_zip hv).1,if_neg hk]
    simp
  | p :: P,w :: vs,i + 1,m,nd,h1,h2,hk=>by
    show bindC kindOf ((p,w) :: P.zip vs) m x = _
    unfold bindC
    exact bindC_get (i:=i) (List.nodup_cons.mp nd).2 (by simpa using h1) (by simpa using h2) hk
def start (N:List Str) (vs:List V):St:=vs.map some ++ List.replicate (N.length - vs.length) none
def cxOf (CX:CXT) (P:Program) (w:World) (K:PySem.W.Frag) (mg:Str→Option Value) (base:Heap) (N:List Str) (qual:Str) (scope:Scope) (f:Addr) (cd:Value) (A:Around) (outer:List Env) (s:Shared) (H:Hp) (E:XK):Cx where
  prog:=P
  w:=w
  K:=K
  mg:=mg
  base:=base
  A:=A.deeper (envOfC qual scope s.heap.objs.size f cd)
  N:=N
  s₀:=s
  H₀:=H
  env:=envOfC qual scope s.heap.objs.size f cd
  outer:=outer
  stack:=envOfC qual scope s.heap.objs.size f cd :: outer
  ex:=[]
  calm:=true
  fn:=fun _=>true
  pn:=[]
  xe:=fun e s'=>wpAny (model P w) (A.deeper (envOfC qual scope s.heap.objs.size f cd)) (leaving (envOfC qual scope s.heap.objs.size f cd) e) (fun _ s''=>CX outer H s E e s'') (fun e' s''=>CX outer H s E e' s'') s'
theorem cell_has {sc:Scope} {n:Nat} {x:Str} (h:sc.names.lookup x = some .cell):∃ c,(cellsFrom n sc.names []).lookup x = some c:=by
  have q:=PySem.W.cellsFrom_some sc.names n [] (.inl h)
  exact Option.isSome_iff_exists.mp q
theorem inv_start {CX:CXT} {P:Program} {w:World} {K:PySem.W.Frag} {mg:Str→Option Value} {base:Heap} {N ps:List Str} {qual:Str} {scope:Scope} {f:Addr} {cd:Value} {A:Around} {outer:List Env} {s s1:Shared} {H:Hp} {E:XK} {us:List Value} {vs:List V}
    (S:FnScope N ps scope) (hd:A.handled = none) (e0:Env0 P w K mg base A outer s H) (hl:vs.length = ps.length) (r:Vals vs us)
    (x:InCallC s s.heap.objs.size (bindL (envOfC qual scope s.heap.objs.size f cd).kindOf (ps.zip us) fun _=>none) (cellsFrom (s.heap.objs.size + 1) scope.names []) (bindC (envOfC qual scope s.heap.objs.size f cd).kindOf (ps.zip us) fun _=>none) s1) :
    Inv (cxOf CX P w K mg base N qual scope f cd A outer s H E) [] (start N vs) H s1:=by
  have hpl:ps.length ≤ N.length:=by have:=congrArg List.length S.pre; rw [List.length_take] at this; omega
  obtain ⟨h1,tk,rfl,hk⟩:=x.done
  have noA:∀ b:Addr,b ∉ (cxOf CX P w K mg base N qual scope f cd A outer s H E).ex:=fun b z=>absurd (show b ∈ ([]:List Addr) from z) (by simp)
  refine ⟨⟨e0.mod,S.kind,rfl,rfl,Nat.le_refl _,fun y z c h1 h2=>?_,fun y hy=>?_,fun y c _ h=>?_,fun _=>hd,Around.frames_deeper e0.frames,.inr ⟨rfl,rfl⟩,fun b z=>absurd z (noA b),e0.bs,e0.bsz,fun b _ _=>noA b,fun b z=>absurd z (noA b),e0.funs,e0.frf⟩,
    rfl,e0.bare,Un.kept hk,⟨_,x.toInCall.ns,fun i y v h1 h2 h3=>?_⟩,fun y c h=>⟨_,x.cell y c h⟩,e0.hok.fresh (Nat.le_refl _),fun y c h=>?_,fun p hp=>absurd (show p ∈ ([]:List (Addr × Obj)) from hp) (by simp),e0.hok.kept hk,?_⟩
  · exact name_of_addr x.apart (PySem.mem_of_lookup h1) (PySem.mem_of_lookup h2)
  · have hy:scope.names.lookup y = some .cell ∨ scope.names.lookup y = some .free:=hy
    rcases hy with hy | hy
    · exact cell_has hy
    · exact absurd rfl (S.nofree _ (PySem.mem_of_lookup hy))
  · exact Nat.le_of_lt (x.above y c (PySem.mem_of_lookup h))
  · have hi:i < vs.length:=by
      unfold start at h2
      by_cases hi:i < vs.length
      · exact hi
      · rw [List.getElem?_append_right (by simpa using hi)] at h2
        rw [List.getElem?_replicate] at h2
        split at h2 <;> cases h2
    have ha:vs[i]? = some v:=by
      unfold start at h2
      rw [List.getElem?_append_left (by simpa using hi),List.getElem?_map] at h2
      cases e:vs[i]? with
      | none=>rw [e] at h2; cases h2
      | some a=>rw [e] at h2; cases h2; rfl
    obtain ⟨u,hu,rv⟩:=r.get ha
    have hp:ps[i]? = some y:=by
      rw [← S.pre,List.getElem?_take_of_lt (by omega)]; exact h1
    have ndP:ps.Nodup:=by rw [← S.pre]; exact S.nd.sublist (List.take_sublist _ _)
    refine ⟨u,rv,?_⟩
    rcases S.par y (List.mem_of_getElem? hp) with k | k
    · exact .inl ⟨k,bindL_get ndP hp hu k⟩
    · obtain ⟨c,e⟩:=cell_has (n:=s.heap.objs.size + 1) k
      refine .inr ⟨.inl k,c,e,?_⟩
      have q:=x.cell y c e
      rw [bindC_get ndP hp hu (by show scope.names.lookup y ≠ _; rw [k]; decide)] at q
      exact q
  · exact e0.hok.fresh (Nat.le_of_lt (x.above y c (PySem.mem_of_lookup h)))
  · unfold start
    show _ = N.length
    rw [List.length_append,List.length_map,List.length_replicate]
    omega
theorem fn_of {CX:CXT} {P:Program} {w:World} {K:PySem.W.Frag} {mg:Str→Option Value} {base:Heap} {k:Nat} {f:Addr} {name qual:Str} {params:Arguments} {body:List Stmt} {scope:Scope} {dV kV doc pm cdv ct oc:Value} {an od:Option Addr}
    {osl:Array (Option Value)} {N ps:List Str} {sp:Sp} (lk:K.lookup f = some ⟨oc,od,.func (PySem.W.fnOf name qual params body scope dV kV doc pm an cdv ct),osl⟩) (hcd:PySem.W.codeIn K cdv qual = true) (S:FnScope N ps scope)
    (len:∀ vs H Q E,sp vs H Q E→vs.length = ps.length)
    (hbody:∀ (A:Around) (outer:List Env) (s:Shared) (H:Hp) (vs:List V) (Q:VK) (E:XK),Room k (A.deeper (envOfC qual scope s.heap.objs.size f cdv))→sp vs H Q E→
      ∃ t,PSs (cxOf CX P w K mg base N qual scope f cdv A outer s H E) body t∧t { nx:=fun _ H'=>Q .non H',rt:=Q } (start N vs) H) :
    FnOk P w K mg base CX (k + 1) f (PySem.W.fnOf name qual params body scope dV kV doc pm an cdv ct) ps sp:=by
  refine ⟨len,fun A outer s H args us vs Q E hr e0 hb r hsp=>?_⟩
  have hl:=len _ _ _ _ hsp
  have KX:K.In s.heap:=e0.mod.kin.keeps fun b o e=>(e0.bs b o e).1
  have lim:s.heap.NoLimit:=e0.mod.nolimit.keeps fun b o e=>(e0.bs b o e).1
  have hkind:∀ y ∈ ps.zip us,scope.names.lookup y.1 = some .local ∨ (scope.names.lookup y.1 = some .cell∧((cellsFrom (s.heap.objs.size + 1) scope.names []).lookup y.1).isSome = true):=fun ⟨n,v⟩ hy=>by
    rcases S.par n (List.of_mem_zip hy).1 with q | q
    · exact .inl q
    · exact .inr ⟨q,PySem.W.cellsFrom_some _ _ _ (.inl q)⟩
  refine codeAny_call_function hr.depth (KX _ _ lk) rfl S.co S.gen rfl (PySem.W.codeRec_of KX hcd) (hb _ _ _ _ ?_)
  refine wpAny_newFunctionEnv_cells S.kind hkind fun env he s1 x=>?_
  subst he
  refine ⟨lim.keeps x.toInCall.keep,codeAny_func ?_⟩
  obtain ⟨t,ht,hq⟩:=hbody A outer s H vs Q E (hr.deeper _) hsp
  have I:Inv (cxOf CX P w K mg base N qual scope f cdv A outer s H E) [] (start N vs) H s1:=inv_start S hr.hd e0 hl r x
  refine wpAny_mono (ht [] s1 (start N vs) H _ I hq) (fun fl s' hs=>?_) fun e s' hs=>hs
  have fin:∀ {σ':St} {H':Hp} {v:V} {u:Value},Inv (cxOf CX P w K mg base N qual scope f cdv A outer s H E) [] σ' H' s'→RelV v u→Q v H'→CE outer P w H s Q u s':=
    fun {σ' H' v u} J rv q=>⟨v,H',J.os,J.bare,J.base,J.hok,rv,q⟩
  cases fl with
  | ret u=>
    obtain ⟨v,σ',H',J,rv,q⟩:=hs
    exact fin J rv q
  | next=>
    obtain ⟨σ',H',J,q⟩:=hs
    exact fin (v:=V.non) (u:=Value.none) J rfl q
  | brk=>
    obtain ⟨_,_,_,q⟩:=hs
    exact False.elim q
  | cont=>
    obtain ⟨_,_,_,q⟩:=hs
    exact False.elim q
section
variable {X:Cx} {x:Str} {p pos:Pos} {e:Expr} {es:List Expr} {t:TA} {id T:String} {r:List V→Hp→VK→Prop}
def tCB (r:List V→Hp→VK→Prop) (t:TA):TE:=fun σ H Q=>t σ H fun vs H1=>r vs H1 Q
theorem pe_callB (hc : CallR X (.builtin id) r) (hg : Gl X x) (hm : X.mg x = none) (hv : bootBuiltins x = some (.builtin id)) (ha : PA X (e :: es) t) (hn : x ≠ "__name__" := by decide) (hdb : (x == ("__debug__" : Str)) = false := by decide)
    (he:starEach (e :: es) X.env = (false,eval e X.env) :: starEach es X.env:=by rfl) (hpl:(backTo pos (starEach es X.env)).any (·.1) = false:=by rfl):PE X (.Call (.Name x p) (e :: es) [] pos) (tCB r t):=by
  intro pins s σ H Q I h
  refine wpAny_Call_Name_kw (ld_blt I hg hm hv ?_ hn hdb)
  exact PyProof.Rows.callWith_builtin1 (thn (ha pos pins s σ H _ I h) fun us s1 ⟨vs,H1,I1,r1,q1⟩=>hc pins s1 σ H1 vs us Q I1 r1 q1) he hpl
theorem pe_callTy (hc : CallR X (.type T) r) (hg : Gl X x) (hm : X.mg x = none) (hv : bootBuiltins x = some (.type T)) (ha : PA X (e :: es) t) (hn : x ≠ "__name__" := by decide) (hdb : (x == ("__debug__" : Str)) = false := by decide)
    (he:starEach (e :: es) X.env = (false,eval e X.env) :: starEach es X.env:=by rfl) (hpl:(backTo pos (starEach es X.env)).any (·.1) = false:=by rfl):PE X (.Call (.Name x p) (e :: es) [] pos) (tCB r t):=by
  intro pins s σ H Q I h
  refine wpAny_Call_Name_kw (ld_blt I hg hm hv ?_ hn hdb)
  exact PyProof.Rows.callWith_type1 (thn (ha pos pins s σ H _ I h) fun us s1 ⟨vs,H1,I1,r1,q1⟩=>hc pins s1 σ H1 vs us Q I1 r1 q1) he hpl
end
end L2
namespace HT
open PySem PyProof.Rows
section
open PySem.SeqAt
open PySem.AutoSeq1 (wpAny_loadPart')
open PySem.MeetsSeq PySem.MeetsSeq2 PySem.MeetsSeq3
end
section
variable {prog:Program} {w:World} {A:Around} {E:Value→Shared→Prop} {s:Shared}
theorem cat_tup {t b:Addr} {vs ws:List Value} {Q:Value→Shared→Prop} (ht:IsTup s.heap t vs.toArray) (hb:IsTup s.heap b ws.toArray) (hv:vs ≠ [])
    (h1:ws = []→Q (.ref t) s) (h2:ws ≠ []→Q (.ref s.heap.objs.size) { s with heap:=s.heap.push { cls:=.type "tuple",data:=.seq (vs ++ ws).toArray } })
    (hsz:vs.length + ws.length ≤ sizeLine):wpAny (model prog w) A (binaryOp .Add (.ref t) (.ref b)) Q E s:=by
  obtain ⟨⟨cls,dd,data,sl⟩,ho,hc,n,hd⟩:=id ht
  obtain ⟨⟨cls2,dd2,data2,sl2⟩,ho2,hc2,n2,hd2⟩:=id hb
  simp only at hc hd hc2 hd2
  subst hc hd hc2 hd2
  have e:vs.toArray ++ ws.toArray = (vs ++ ws).toArray:=by simp
  by_cases hw:ws = []
  · exact concat_meets ⟨_,ho,rfl⟩ ⟨_,ho2,rfl⟩ noFill_tuple_add seq_tuple_add PySem.F.slot_tuple_add PySem.F.entry_tuple_add (PySem.F.args_tuple_add_2 _ _)
      (tuple_addW1 t b vs.toArray ws.toArray n n2 dd dd2 sl sl2 (by simpa using hv) (by simp [hw])) ⟨ho,ho2,h1 hw⟩
  · refine concat_meets ⟨_,ho,rfl⟩ ⟨_,ho2,rfl⟩ noFill_tuple_add seq_tuple_add PySem.F.slot_tuple_add PySem.F.entry_tuple_add (PySem.F.args_tuple_add_2 _ _)
      (tuple_addW2 t b vs.toArray ws.toArray n n2 dd dd2 sl sl2 (by simpa using hv) (by simpa using hw) (by rw [List.size_toArray,List.size_toArray]; exact hsz)) ⟨ho,ho2,?_⟩
    rw [e]
    exact h2 hw
def sIx (n d:Nat):Option Int→Nat
  | none=>d
  | some v=>if v < 0 then (v + (n:Int)).toNat else min v.toNat n
theorem sIx_none (n d:Nat):sIx n d none = d:=rfl
theorem sIx_nat (n d k:Nat):sIx n d (some (k:Int)) = min k n:=by
  show (if (k:Int) < 0 then ((k:Int) + (n:Int)).toNat else min (k:Int).toNat n) = min k n
  rw [if_neg (by omega),Int.toNat_natCast]
theorem sIx_le (n d:Nat) (hd:d ≤ n) (o:Option Int):sIx n d o ≤ n:=by
  cases o with
  | none=>exact hd
  | some v=>
    show (if v < 0 then (v + (n:Int)).toNat else min v.toNat n) ≤ n
    by_cases hv:v < 0
    · rw [if_pos hv]; omega
    · rw [if_neg hv]; exact Nat.min_le_right _ _
theorem clip_eq (v:Int) (n d:Nat):(if v < 0 then max (v + (n:Int)) 0 else min v (n:Int)) = ((sIx n d (some v):Nat):Int):=by
  show (if v < 0 then max (v + (n:Int)) 0 else min v (n:Int)) = (((if v < 0 then (v + (n:Int)).toNat else min v.toNat n):Nat):Int)
  by_cases hv:v < 0
  · simp only [if_pos hv]; omega
  · simp only [if_neg hv]; omega
theorem adjust_gen (lo hi:Option Int) (n:Nat):Builtin.Slice.sliceAdjust lo hi 1 (n:Int) = (((sIx n 0 lo:Nat):Int),((sIx n n hi:Nat):Int)):=by
  have h1:¬ ((1:Int) < 0):=by omega
  unfold Builtin.Slice.sliceAdjust
  simp only [h1,if_false]
  refine Prod.ext ?_ ?_
  · cases lo with
    | none=>rfl
    | some v=>exact clip_eq v n 0
  · cases hi with
    | none=>rfl
    | some v=>exact clip_eq v n n
theorem places_gen (i j:Nat):Builtin.Slice.slicePlaces (i:Int) (j:Int) 1 = j - i:=by
  unfold Builtin.Slice.slicePlaces
  have h1:(1:Int) > 0:=by omega
  simp only [h1,if_true,Int.ediv_one]
  split <;> omega
theorem slicePart_ {v:Value} {o:Option Int} {Q:Option Int→Shared→Prop} (p:IsPart v o) (h:Q o s):wpAny (model prog w) A (Builtin.Slice.slicePartIndex v) Q E s:=by
  cases p with
  | none=>exact slicePart_none h
  | int i t=>exact slicePart_int h
theorem sliceApplied_gen {sl:Addr} {vl vu:Value} {lo hi:Option Int} {n:Nat} {Q:Int × Int × Nat→Shared→Prop} (hs:s.heap.IsSliceOf sl vl vu .none) (pl:IsPart vl lo) (pu:IsPart vu hi)
    (h:Q (((sIx n 0 lo:Nat):Int),1,sIx n n hi - sIx n 0 lo) s):wpAny (model prog w) A (Builtin.Slice.sliceApplied (.ref sl) (pure (n:Int))) Q E s:=by
  obtain ⟨os,hos,hcs,hds⟩:=id hs
  unfold Builtin.Slice.sliceApplied Builtin.Slice.sliceFields
  refine wpAny_bind (wpAny_bind (wpAny_field hos hds (x:=vl) rfl (wpAny_bind (wpAny_field hos hds (x:=vu) rfl (wpAny_bind (wpAny_field hos hds (x:=.none) rfl (wpAny_pure ?_)))))))
  refine wpAny_bind (slicePart_none ?_)
  show wpAny _ _ (if ((1:Int) == 0) = true then _ else _) _ _ s
  rw [if_neg (by decide)]
  refine wpAny_bind (slicePart_ pl (wpAny_bind (slicePart_ pu (wpAny_bind (wpAny_pure ?_)))))
  show wpAny _ _ (match Builtin.Slice.sliceAdjust lo hi 1 (n:Int) with | (lo,hi)=>pure (lo,(1:Int),Builtin.Slice.slicePlaces lo hi 1)) _ _ s
  rw [adjust_gen lo hi n]
  show wpAny _ _ (pure (((sIx n 0 lo:Nat):Int),(1:Int),Builtin.Slice.slicePlaces ((sIx n 0 lo:Nat):Int) ((sIx n n hi:Nat):Int) 1)) _ _ s
  rw [places_gen]
  exact wpAny_pure h
theorem pick_gen (xs:Array Value) (i k:Nat):((List.range k).filterMap fun (m:Nat)=>xs[((i:Int) + (m:Int) * 1).toNat]?).toArray = ((xs.toList.drop i).take k).toArray:=by
  have e:(fun (m:Nat)=>xs[((i:Int) + (m:Int) * 1).toNat]?) = fun m=>xs[i + m]?:=by
    funext m
    have:((i:Int) + (m:Int) * 1).toNat = i + m:=by omega
    rw [this]
  rw [e]
  have:=pick_run xs i k
  rw [List.filterMap_map] at this
  have e2:((fun x=>xs[x]?) ∘ fun x=>i + x) = fun m=>xs[i + m]?:=rfl
  rw [e2] at this
  rw [this]
theorem getItem_tuple_cut {t sl:Addr} {items:Array Value} {vl vu:Value} {lo hi:Option Int} {Q:Value→Shared→Prop} (ht:IsTup s.heap t items) (hs:s.heap.IsSliceOf sl vl vu .none) (pl:IsPart vl lo) (pu:IsPart vu hi)
    (hw:¬ (sIx items.size 0 lo = 0∧sIx items.size items.size hi = items.size))
    (h:Q (.ref s.heap.objs.size) { s with heap:=s.heap.push { cls:=.type "tuple",data:=.seq ((items.toList.drop (sIx items.size 0 lo)).take (sIx items.size items.size hi - sIx items.size 0 lo)).toArray } })
    (hsz:items.size ≤ sizeLine):wpAny (model prog w) A (getItem (.ref t) (.ref sl)) Q E s:=by
  have htake:sizeOk (.seq ((items.toList.drop (sIx items.size 0 lo)).take (sIx items.size items.size hi - sIx items.size 0 lo)).toArray):=by
    show ((items.toList.drop (sIx items.size 0 lo)).take (sIx items.size items.size hi - sIx items.size 0 lo)).toArray.size ≤ sizeLine
    rw [List.size_toArray,List.length_take,List.length_drop,Array.length_toList]
    omega
  have hj:sIx items.size items.size hi ≤ items.size:=sIx_le _ _ (Nat.le_refl _) hi
  obtain ⟨os,hos,hcs,hds⟩:=id hs
  have hTs:s.TypeIs (.ref sl) "slice":=⟨os,hos,hcs⟩
  unfold getItem
  try with_reducible refine wpAny_holding ?_
  first | refine wpAny_bind (wpAny_pure ?_) | skip
  refine wpAny_bind (wpAny_sequenceKey ht.typeIs (by decide) ?_)
  refine wpAny_bind (wpAny_callSpecial?_slot (name:=Str.ofString "__getitem__") ht.typeIs PyProof.Rows.slot_tuple_getitem
    (wpAny_call_entry PyProof.Rows.slot_tuple_getitem ht.typeIs entry_tuple_getitem ?_ (args_tuple_getitem _ _)))
  show wpAny _ _ (Builtin.Tuple.tupleItemsOf (.ref t) >>= _) _ _ s
  refine wpAny_bind (tupleItemsOf_ ht ?_)
  refine wpAny_bind (wpAny_typeOf hTs ?_)
  rw [if_pos (by decide)]
  refine wpAny_bind (sliceApplied_gen hs pl pu ?_)
  have hno:¬ ((((sIx items.size 0 lo:Nat):Int) == 0 && (1:Int) == 1 && (sIx items.size items.size hi - sIx items.size 0 lo) == items.size) = true):=by
    intro q
    rw [Bool.and_eq_true,Bool.and_eq_true] at q
    have q1:((sIx items.size 0 lo:Nat):Int) = 0:=eq_of_beq q.1.1
    have q2:sIx items.size items.size hi - sIx items.size 0 lo = items.size:=eq_of_beq q.2
    exact hw ⟨by omega,by omega⟩
  show wpAny _ _ (if (((sIx items.size 0 lo:Nat):Int) == 0 && (1:Int) == 1 && (sIx items.size items.size hi - sIx items.size 0 lo) == items.size) = true then _ else _) _ _ s
  rw [if_neg hno,pick_gen]
  first
    | exact wpAny_bind (m:=Builtin.Tuple.tupleExact _) (wpAny_newObj_type (wpAny_pure ⟨_,rfl,wpAny_pure h⟩) htake)
    | exact wpAny_bind (m:=Builtin.Tuple.tupleExact _) (wpAny_newObj_type (wpAny_bind (wpAny_pure (wpAny_pure ⟨_,rfl,wpAny_pure h⟩))) htake)
    | exact wpAny_bind (wpAny_bind (m:=Builtin.Tuple.tupleExact _) (wpAny_newObj_type (wpAny_pure (wpAny_pure ⟨_,rfl,wpAny_pure h⟩)) htake))
    | exact wpAny_bind (wpAny_bind (m:=Builtin.Tuple.tupleExact _) (wpAny_newObj_type (wpAny_pure ⟨_,rfl,wpAny_pure h⟩) htake))
end
end HT
namespace L2
open PySem PySem.Spec PyProof.Rows
abbrev TO:=St→Hp→(Option Int→Hp→Prop)→Prop
def PO (X:Cx) (e:Option Expr) (t:TO):Prop:=
  ∀ (pins:List (Addr × Obj)) (s:Shared) (σ:St) (H:Hp) (Q:Option Int→Hp→Prop),Inv X pins σ H s→t σ H Q→
    wpAny (model X.prog X.w) X.A (evalPart e X.env) (fun u s'=>∃ o H',Inv X pins σ H' s'∧IsPart u o∧Q o H') X.xe s
def tNoPart:TO:=fun _ H Q=>Q none H
def tPart (t:TE):TO:=fun σ H Q=>t σ H fun x H1=>∃ i,x = .int i∧Q (some i) H1
section
variable {X:Cx} {e:Expr} {te:TE} {lo hi:Option Expr} {tl th:TO} {pos p2:Pos}
theorem po_none:PO X none tNoPart:=by
  intro pins s σ H Q I h
  rw [evalPart_none]
  exact wpAny_pure ⟨none,H,I,.none,h⟩
theorem po_some (h:PE X e te):PO X (some e) (tPart te):=by
  intro pins s σ H Q I hw
  rw [evalPart_some]
  refine thn (h pins s σ H _ I hw) fun u s1 ⟨x,H1,I1,r1,q1⟩=>?_
  obtain ⟨i,rfl,q⟩:=q1
  obtain ⟨t,rfl⟩:=r1
  exact ⟨some i,H1,I1,.int i t,q⟩
def SlR (X:Cx) (r:V→Option Int→Option Int→Hp→VK→Prop):Prop:=
  ∀ (pins:List (Addr × Obj)) (s:Shared) (σ:St) (H:Hp) (x:V) (v vl vu:Value) (lo hi:Option Int) (sl:Addr) (Q:VK),Inv X pins σ H s→RelV x v→s.heap.IsSliceOf sl vl vu .none→IsPart vl lo→IsPart vu hi→r x lo hi H Q→
    ∃ T id,typeLookup (.type T) "__getitem__" = pure (some (.builtin id))∧s.TypeIs v T∧wpAny (model X.prog X.w) X.A (getItem v (.ref sl)) (EP X pins σ Q) X.xe s
def tSl (r:V→Option Int→Option Int→Hp→VK→Prop) (te:TE) (tl th:TO):TE:=fun σ H Q=>te σ H fun x H1=>tl σ H1 fun l H2=>th σ H2 fun u H3=>r x l u H3 Q
theorem pe_slice {r:V→Option Int→Option Int→Hp→VK→Prop} (hr:SlR X r) (he:PE X e te) (hl:PO X lo tl) (hu:PO X hi th):PE X (.Subscript e (.Slice lo hi none p2) pos) (tSl r te tl th):=by
  intro pins s σ H Q I h
  refine Subscript_ (thn (he pins s σ H _ I h) fun v s1 ⟨x,H1,I1,r1,q1⟩=>?_)
  refine wpAny_Slice (thn (hl pins s1 σ H1 _ I1 q1) fun vl s2 ⟨l,H2,I2,pl,q2⟩=>thn (hu pins s2 σ H2 _ I2 q2) fun vu s3 ⟨u,H3,I3,pu,q3⟩=>?_)
  rw [evalPart_none]
  refine wpAny_pure ?_
  have I4:Inv X pins σ H3 { s3 with heap:=s3.heap.push { cls:=.type "slice",data:=.fields #[vl,vu,.none] } }:=I3.kept (t':=s3.toks) fun b ob q=>Heap.get?_push_of_some _ q
  obtain ⟨T,id,hT,ht,hg⟩:=hr pins { s3 with heap:=s3.heap.push { cls:=.type "slice",data:=.fields #[vl,vu,.none] } } σ H3 x v vl vu l u s3.heap.objs.size Q I4 r1 (Heap.IsSliceOf.new ..) pl pu q3
  show wpAny (model X.prog X.w) X.A (subscriptTail e (.Slice lo hi none p2) v (.ref s3.heap.objs.size)) (EP X pins σ Q) X.xe { s3 with heap:=s3.heap.push { cls:=.type "slice",data:=.fields #[vl,vu,.none] } }
  exact tail_any (ops:=[.ref s3.heap.objs.size,v]) ht hT hg (by with_unfolding_all rfl)
def cutV (xs:List V) (lo hi:Option Int):List V:=(xs.drop (HT.sIx xs.length 0 lo)).take (HT.sIx xs.length xs.length hi - HT.sIx xs.length 0 lo)
theorem cutV_length (xs:List V) (lo hi:Option Int):(cutV xs lo hi).length ≤ xs.length:=by
  unfold cutV
  rw [List.length_take,List.length_drop]
  omega
def rSlT (K:PySem.W.Frag):V→Option Int→Option Int→Hp→VK→Prop:=fun x lo hi H Q=>∃ a xs,x = .ref a∧SqT K H a xs∧
  ¬ (HT.sIx xs.length 0 lo = 0∧HT.sIx xs.length xs.length hi = xs.length)∧∀ p,H p = none→Q (.ref p) (upd H p (.tup (cutV xs lo hi)))
theorem sl_tup:SlR X (rSlT X.K):=by
  intro pins s σ H x v vl vu lo hi sl Q I rx hs pl pu h
  obtain ⟨a,xs,rfl,hx,hw,q⟩:=h
  cases rx
  obtain ⟨its,r,ht,hz⟩:=I.tuple hx
  have hlen:its.toArray.size = xs.length:=by rw [List.size_toArray]; exact r.length.symm
  refine ⟨"tuple",_,PyProof.Rows.slot_tuple_getitem.lookup,ht.typeIs,?_⟩
  refine HT.getItem_tuple_cut ht hs pl pu (by rw [hlen]; exact hw) ?_ (by rw [hlen]; exact hz)
  rw [hlen]
  refine ⟨.ref s.heap.objs.size,_,I.laid (t':=s.toks) (o:=.tup (cutV xs lo hi)) (fun b ob q=>Heap.get?_push_of_some _ q) (Nat.le_refl _) ?_,rfl,q _ (I.hok.fresh (Nat.le_refl _))⟩
  exact ⟨Nat.le_trans (cutV_length xs lo hi) hz,_,(r.drop (HT.sIx xs.length 0 lo)).take (HT.sIx xs.length xs.length hi - HT.sIx xs.length 0 lo),IsTup.new _ _⟩
def rCatT (K:PySem.W.Frag):R2:=fun x y H Q=>∃ a b xs ys,x = .ref a∧y = .ref b∧SqT K H a xs∧SqT K H b ys∧xs ≠ []∧xs.length + ys.length ≤ sizeLine∧
  (ys = []→Q (.ref a) H)∧(ys ≠ []→∀ p,H p = none→Q (.ref p) (upd H p (.tup (xs ++ ys))))
theorem Vals.nil_iff {xs:List V} {us:List Value} (r:Vals xs us):us = [] ↔ xs = []:=by
  cases r with
  | nil=>simp
  | cons _ _=>simp
theorem op_catT:OpR X (binaryOp .Add) (rCatT X.K):=by
  intro pins s σ H x y v u Q I rx ry h
  obtain ⟨a,b,xs,ys,rfl,rfl,ha,hb,hx,hz,q1,q2⟩:=h
  cases rx
  cases ry
  obtain ⟨its,r1,p1,_⟩:=I.tuple ha
  obtain ⟨its2,r2,p2,_⟩:=I.tuple hb
  refine HT.cat_tup p1 p2 (fun z=>hx (r1.nil_iff.mp z)) (fun z=>⟨.ref a,H,I,rfl,q1 (r2.nil_iff.mp z)⟩) (fun z=>?_) (by rw [← r1.length,← r2.length]; exact hz)
  refine ⟨.ref s.heap.objs.size,_,I.laid (t':=s.toks) (o:=.tup (xs ++ ys)) (fun b ob q=>Heap.get?_push_of_some _ q) (Nat.le_refl _) ?_,rfl,q2 (fun w=>z (r2.nil_iff.mpr w)) _ (I.hok.fresh (Nat.le_refl _))⟩
  exact ⟨by rw [List.length_append]; exact hz,_,r1.append r2,IsTup.new _ _⟩
end
def ixN (n:Nat) (i:Int):Option Nat:=if 0 ≤ i then (if i < n then some i.toNat else none) else if -(n:Int) ≤ i then some (i + n).toNat else none
def atI {α:Type} (xs:List α) (i:Int):Option α:=(ixN xs.length i).bind fun j=>xs[j]?
theorem ixN_seq {n:Nat} {i:Int} {j:Nat} (h:ixN n i = some j):seqIndex? i n = some j∧j < n∧-(n:Int) ≤ i∧i < n:=by
  unfold ixN at h
  by_cases h0:0 ≤ i
  · rw [if_pos h0] at h
    by_cases h1:i < n
    · rw [if_pos h1] at h
      have e:i.toNat = j:=Option.some.inj h
      exact ⟨by rw [seqIndex_of h0 h1,e],by omega,by omega,h1⟩
    · rw [if_neg h1] at h; cases h
  · rw [if_neg h0] at h
    by_cases h1:-(n:Int) ≤ i
    · rw [if_pos h1] at h
      have e:(i + n).toNat = j:=Option.some.inj h
      exact ⟨by rw [seqIndex_neg (by omega) h1,e],by omega,h1,by omega⟩
    · rw [if_neg h1] at h; cases h
theorem atI_get {α:Type} {xs:List α} {i:Int} {v:α} (h:atI xs i = some v):∃ j,seqIndex? i xs.length = some j∧xs[j]? = some v∧j < xs.length∧-(xs.length:Int) ≤ i∧i < xs.length:=by
  unfold atI at h
  cases e:ixN xs.length i with
  | none=>rw [e] at h; cases h
  | some j=>
    rw [e] at h
    obtain ⟨h1,h2,h3,h4⟩:=ixN_seq e
    exact ⟨j,h1,h,h2,h3,h4⟩
theorem atI_nat {α:Type} {xs:List α} {j:Nat} {v:α} (h:xs[j]? = some v):atI xs (j:Int) = some v:=by
  have hj:j < xs.length:=(List.getElem?_eq_some_iff.mp h).1
  have e:ixN xs.length (j:Int) = some j:=by
    unfold ixN
    rw [if_pos (by omega),if_pos (by omega)]; simp
  unfold atI; rw [e]; exact h
def PlainIx (b:Expr):Prop:=∀ o i,subscripted b false o i = operate [o,i] (getItem o i)
def IxR (X:Cx) (r:R2):Prop:=
  ∀ (value slice:Expr) (pins:List (Addr × Obj)) (s:Shared) (σ:St) (H:Hp) (x y:V) (v u:Value) (Q:VK),Inv X pins σ H s→RelV x v→RelV y u→r x y H Q→
    subscripted slice false v u = operate [v,u] (getItem v u)→wpAny (model X.prog X.w) X.A (subscriptTail value slice v u) (EP X pins σ Q) X.xe s
def MtR (X:Cx) (id:String) (r:V→List V→Hp→VK→Prop):Prop:=
  ∀ (pins:List (Addr × Obj)) (s:Shared) (σ:St) (H:Hp) (x:V) (xs:List V) (v:Value) (us:List Value) (Q:VK),Inv X pins σ H s→RelV x v→Vals xs us→r x xs H Q→
    wpAny (model X.prog X.w) X.A (call (.builtin id) (v :: us)) (EP X pins σ Q) X.xe s
section
variable {X:Cx} {a b:Expr} {ta tb:TE} {pos:Pos}
theorem pe_ix {r:R2} (hr:IxR X r) (ha:PE X a ta) (hb:PE X b tb) (hs:PlainIx b):PE X (.Subscript a b pos) (tOp r ta tb):=by
  intro pins s σ H Q I h
  exact Subscript_ (binT ha hb I h fun v u s2 x y H2 I2 rx ry q=>hr a b pins s2 σ H2 x y v u Q I2 rx ry q (hs _ _))
def rIxL (K:PySem.W.Frag):R2:=fun x y H Q=>∃ p xs i v,x = .ref p∧y = .int i∧SqL K H p xs∧atI xs i = some v∧Q v H
def rIxT (K:PySem.W.Frag):R2:=fun x y H Q=>∃ p xs i v,x = .ref p∧y = .int i∧SqT K H p xs∧atI xs i = some v∧Q v H
def rIxS:R2:=fun x y H Q=>∃ z i c,x = .str z∧y = .int i∧z.length ≤ sizeLine∧atI z.cps.toList i = some c∧Q (.str ⟨#[c]⟩) H
theorem ix_list:IxR X (rIxL X.K):=by
  intro value slice pins s σ H x y v u Q I rx ry h hs
  obtain ⟨p,xs,i,z,rfl,rfl,hq,he,q⟩:=h
  cases rx
  obtain ⟨t,rfl⟩:=ry
  obtain ⟨its,r,pl,hz⟩:=I.list hq
  obtain ⟨j,h1,h2,h3,h4,h5⟩:=atI_get he
  obtain ⟨w,ew,rw'⟩:=r.get h2
  have hl:=r.length
  have hn:=line63
  have fin:EP X pins σ Q w s:=⟨z,H,I,rw',q⟩
  by_cases h0:0 ≤ i
  · have hj:i.toNat = j:=by
      rw [seqIndex_of h0 h5] at h1
      exact Option.some.inj h1
    exact item_listR pl.isList h0 (by omega) (by rw [hj]; simpa using ew) fin hs
  · have hj:(i + (its.toArray.size:Int)).toNat = j:=by
      rw [seqIndex_neg (by omega) h4] at h1
      rw [List.size_toArray,← hl]
      exact Option.some.inj h1
    exact subscriptTail_builtinR (x:=w) pl.isList.typeIs slot_list_getitem.lookup
      (wpAny_getItem_list_neg (Q:=fun r s'=>r = w∧EP X pins σ Q r s') pl.isList (by omega) (by rw [List.size_toArray] <;> omega) (by omega) (by rw [hj]; simpa using ew) ⟨rfl,fin⟩) hs
theorem ix_tup:IxR X (rIxT X.K):=by
  intro value slice pins s σ H x y v u Q I rx ry h hs
  obtain ⟨p,xs,i,z,rfl,rfl,hq,he,q⟩:=h
  cases rx
  obtain ⟨t,rfl⟩:=ry
  obtain ⟨its,r,pl,hz⟩:=I.tuple hq
  obtain ⟨j,h1,h2,h3,h4,h5⟩:=atI_get he
  obtain ⟨w,ew,rw'⟩:=r.get h2
  have hl:=r.length
  have hn:=line63
  have fin:EP X pins σ Q w s:=⟨z,H,I,rw',q⟩
  exact subscriptTail_builtinR (x:=w) pl.typeIs slot_tuple_getitem.lookup
    (getItem_tuple (j:=j) (Q:=fun r s'=>r = w∧EP X pins σ Q r s') pl (by omega) (by omega) (by rw [List.size_toArray,← hl]; exact h1) (by simpa using ew) ⟨rfl,fin⟩) hs
theorem ix_str:IxR X rIxS:=by
  intro value slice pins s σ H x y v u Q I rx ry h hs
  obtain ⟨z,i,c,rfl,rfl,hz,he,q⟩:=h
  obtain ⟨t,rfl⟩:=rx
  obtain ⟨t',rfl⟩:=ry
  obtain ⟨j,h1,h2,h3,h4,h5⟩:=atI_get he
  have hl:z.cps.toList.length = z.length:=by simp [Str.length]
  rw [hl] at h1 h4 h5
  have hn:=line63
  exact tail_any (typeIs_str s z t) slot_str_getitem.lookup (getItem_str (c:=c) (by
    have e1:decide (i < -(2 ^ 63:Int)) = false:=decide_eq_false (by omega)
    have e2:decide (i ≥ 2 ^ 63) = false:=decide_eq_false (by omega)
    rw [e1,e2,Bool.or_false]) (by rw [h1]; simpa using h2) ⟨.str ⟨#[c]⟩,H,I.tok _,⟨_,rfl⟩,q⟩) hs
theorem slice_bounds (lo hi:Option Int) (n:Nat):(sliceBounds lo hi none n).1 = ((HT.sIx n 0 lo:Nat):Int)∧(sliceBounds lo hi none n).2.1 = ((HT.sIx n n hi:Nat):Int)∧(sliceBounds lo hi none n).2.2 = 1:=by
  refine ⟨?_,?_,rfl⟩
  · cases lo with
    | none=>simp [sliceBounds,HT.sIx]
    | some i=>
      simp only [sliceBounds,HT.sIx,Option.getD_none,show (1:Int) > 0 by decide,if_true]
      by_cases h:i < 0
      · simp only [h,if_true] <;> omega
      · simp only [h,if_false] <;> omega
  · cases hi with
    | none=>simp [sliceBounds,HT.sIx]
    | some i=>
      simp only [sliceBounds,HT.sIx,Option.getD_none,show (1:Int) > 0 by decide,if_true]
      by_cases h:i < 0
      · simp only [h,if_true] <;> omega
      · simp only [h,if_false] <;> omega
theorem slicePick_cut (its:List Value) (lo hi:Option Int):slicePick its.toArray lo hi none = ((its.drop (HT.sIx its.length 0 lo)).take (HT.sIx its.length its.length hi - HT.sIx its.length 0 lo)).toArray:=by
  obtain ⟨h1,h2,h3⟩:=slice_bounds lo hi its.toArray.size
  unfold slicePick
  rw [h1,h2,h3]
  simp only [sliceRange_one,pick_run,List.size_toArray] <;> rfl
def rSlL (K:PySem.W.Frag):V→Option Int→Option Int→Hp→VK→Prop:=fun x lo hi H Q=>∃ a xs,x = .ref a∧SqL K H a xs∧∀ p,H p = none→Q (.ref p) (upd H p (.lst (cutV xs lo hi)))
theorem sl_list:SlR X (rSlL X.K):=by
  intro pins s σ H x v vl vu lo hi sl Q I rx hs pl pu h
  obtain ⟨a,xs,rfl,hx,q⟩:=h
  cases rx
  obtain ⟨its,r,ht,hz⟩:=I.list hx
  have hlen:=r.length
  refine ⟨"list",_,slot_list_getitem.lookup,ht.isList.typeIs,?_⟩
  refine wpAny_getItem_list_slice ht.isList hs pl pu .none (by simp) ?_ (by rw [List.size_toArray] <;> omega)
  rw [slicePick_cut,← hlen]
  refine ⟨.ref s.heap.objs.size,_,I.laid (t':=s.toks) (o:=.lst (cutV xs lo hi)) (fun b ob q=>Heap.get?_push_of_some _ q) (Nat.le_refl _) ?_,rfl,q _ (I.hok.fresh (Nat.le_refl _))⟩
  exact ⟨Nat.le_trans (cutV_length xs lo hi) hz,_,0,(r.drop (HT.sIx xs.length 0 lo)).take (HT.sIx xs.length xs.length hi - HT.sIx xs.length 0 lo),Heap.get?_push_size _ rfl⟩
def flatV:V→Bool
  | .non=>true
  | .bl _=>true
  | .int _=>true
  | .str _=>true
  | _=>false
def eqV:V→V→Bool
  | .non,.non=>true
  | .bl a,.bl b=>a == b
  | .bl a,.int b=>(if a then 1 else 0) == b
  | .int a,.bl b=>a == (if b then 1 else 0)
  | .int a,.int b=>a == b
  | .str a,.str b=>a == b
  | _,_=>false
theorem eqAt_V {A:Around} {s:Shared} {y x:V} {u v:Value} (ry:RelV y u) (rx:RelV x v) (fy:flatV y = true) (fx:flatV x = true):SeqAt.EqAt A s u v (eqV y x):=by
  cases y with
  | non=>
    cases ry
    cases x with
    | non=>cases rx; exact SeqAt.EqAt.same _
    | bl b=>cases rx; exact SeqAt.EqAt.none_bool b
    | int b=>obtain ⟨t,rfl⟩:=rx; exact SeqAt.EqAt.none_int b t
    | str b=>obtain ⟨t,rfl⟩:=rx; exact SeqAt.EqAt.none_str b t
    | _=>exact absurd (show false = true from fx) Bool.false_ne_true
  | bl a=>
    cases ry
    cases x with
    | non=>cases rx; exact SeqAt.EqAt.bool_none a
    | bl b=>cases rx; exact SeqAt.EqAt.bool_bool a b
    | int b=>obtain ⟨t,rfl⟩:=rx; exact SeqAt.EqAt.bool_int a b t
    | str b=>obtain ⟨t,rfl⟩:=rx; exact SeqAt.EqAt.bool_str a b t
    | _=>exact absurd (show false = true from fx) Bool.false_ne_true
  | int a=>
    obtain ⟨t',rfl⟩:=ry
    cases x with
    | non=>cases rx; exact SeqAt.EqAt.int_none a t'
    | bl b=>cases rx; exact SeqAt.EqAt.int_bool a t' b
    | int b=>obtain ⟨t,rfl⟩:=rx; exact SeqAt.EqAt.int_int a t' b t
    | str b=>obtain ⟨t,rfl⟩:=rx; exact SeqAt.EqAt.int_str a t' b t
    | _=>exact absurd (show false = true from fx) Bool.false_ne_true
  | str a=>
    obtain ⟨t',rfl⟩:=ry
    cases x with
    | non=>cases rx; exact SeqAt.EqAt.str_none a t'
    | bl b=>cases rx; exact SeqAt.EqAt.str_bool a t' b
    | int b=>obtain ⟨t,rfl⟩:=rx; exact SeqAt.EqAt.str_int a t' b t
    | str b=>obtain ⟨t,rfl⟩:=rx; exact SeqAt.EqAt.str_str a t' b t
    | _=>exact absurd (show false = true from fx) Bool.false_ne_true
  | _=>exact absurd (show false = true from fy) Bool.false_ne_true
def eqU (x:V) (u:Value):Bool:=match u with
  | .none=>eqV .non x
  | .bool b=>eqV (.bl b) x
  | .int i _=>eqV (.int i) x
  | .str z _=>eqV (.str z) x
  | _=>false
theorem eqU_of {x y:V} {u:Value} (r:RelV y u) (f:flatV y = true):eqU x u = eqV y x:=by
  cases y with
  | non=>cases r; rfl
  | bl b=>cases r; rfl
  | int i=>obtain ⟨t,rfl⟩:=r; rfl
  | str z=>obtain ⟨t,rfl⟩:=r; rfl
  | _=>exact absurd (show false = true from f) Bool.false_ne_true
theorem any_eqU {x:V}:∀ {xs:List V} {us:List Value},Vals xs us→xs.all flatV = true→us.any (eqU x) = xs.any fun y=>eqV y x
  | _,_,.nil,_=>rfl
  | y :: xs,u :: us,.cons r t,f=>by
    rw [List.all_cons,Bool.and_eq_true] at f
    rw [List.any_cons,List.any_cons,eqU_of r f.1,any_eqU t f.2]
theorem mem_eqAt {A:Around} {s:Shared} {x:V} {v:Value} (rx:RelV x v) (fx:flatV x = true):∀ {xs:List V} {us:List Value},Vals xs us→xs.all flatV = true→∀ u ∈ us,SeqAt.EqAt A s u v (eqU x u)
  | _,_,.nil,_=>fun u hu=>by cases hu
  | y :: xs,u :: us,.cons r t,f=>fun u' hu=>by
    rw [List.all_cons,Bool.and_eq_true] at f
    rcases List.mem_cons.mp hu with rfl | hu
    · rw [eqU_of r f.1]; exact eqAt_V r rx f.1 fx
    · exact mem_eqAt rx fx t f.2 u' hu
def inV (x:V) (xs:List V):Bool:=xs.any fun y=>eqV y x
def rIn (K:PySem.W.Frag) (neg:Bool):R2:=fun x y H Q=>∃ p xs,y = .ref p∧(SqL K H p xs ∨ SqT K H p xs)∧flatV x = true∧xs.all flatV = true∧Q (.bl (if neg then !inV x xs else inV x xs)) H
theorem op_notIn_seq:OpR X (compareOp .NotIn) (rIn X.K true):=by
  intro pins s σ H x y v u Q I rx ry h
  obtain ⟨p,xs,rfl,hq,fx,fs,q⟩:=h
  cases ry
  rcases hq with hq | hq
  · obtain ⟨its,r,pl,hz⟩:=I.list hq
    refine SeqAt.notIn_listAt (eqU x) pl.isList (fun w hw=>mem_eqAt rx fx r fs w (by simpa using hw)) ⟨.bl _,H,I,rfl,?_⟩
    rw [show its.toArray.any (eqU x) = its.any (eqU x) by simp,any_eqU r fs]
    exact q
  · obtain ⟨its,r,pl,hz⟩:=I.tuple hq
    refine SeqAt.notIn_tupleAt (eqU x) pl (fun w hw=>mem_eqAt rx fx r fs w (by simpa using hw)) ⟨.bl _,H,I,rfl,?_⟩
    rw [show its.toArray.any (eqU x) = its.any (eqU x) by simp,any_eqU r fs]
    exact q
theorem call_len_seq:CallR X (.builtin "len") (fun xs H Q=>∃ p ys,xs = [.ref p]∧(SqL X.K H p ys ∨ SqT X.K H p ys)∧Q (.int ys.length) H):=by
  intro pins s σ H xs us Q I r h
  obtain ⟨p,ys,rfl,hq,q⟩:=h
  obtain ⟨u,rfl,rx⟩:=vals1 r
  cases rx
  have hn:=line63
  rcases hq with hq | hq
  · obtain ⟨its,r',pl,hz⟩:=I.list hq
    have hlen:=r'.length
    exact Calls.call_len_list pl.isList (by simp only [List.size_toArray] <;> omega) ⟨.int ys.length,H,I.tok _,⟨s.toks + 1,by rw [List.size_toArray,hlen]⟩,q⟩
  · obtain ⟨its,r',pl,hz⟩:=I.tuple hq
    have hlen:=r'.length
    exact len_tuple pl (by simp only [List.size_toArray] <;> omega) ⟨.int ys.length,H,I.tok _,⟨s.toks + 1,by rw [List.size_toArray,hlen]⟩,q⟩
theorem call_len_str:CallR X (.builtin "len") (fun xs H Q=>∃ z,xs = [.str z]∧z.length ≤ sizeLine∧Q (.int z.length) H):=by
  intro pins s σ H xs us Q I r h
  obtain ⟨z,rfl,hz,q⟩:=h
  obtain ⟨u,rfl,t,rfl⟩:=vals1 r
  have hn:=line63
  exact len_str (by omega) ⟨.int z.length,H,I.tok _,⟨_,rfl⟩,q⟩
theorem call_list_of:CallR X (.type "list") (fun xs H Q=>∃ p ys,xs = [.ref p]∧(SqL X.K H p ys ∨ SqT X.K H p ys)∧∀ l,H l = none→Q (.ref l) (upd H l (.lst ys))):=by
  intro pins s σ H xs us Q I r h
  obtain ⟨p,ys,rfl,hq,q⟩:=h
  obtain ⟨u,rfl,rx⟩:=vals1 r
  cases rx
  have fin:∀ (its:List Value),Vals ys its→ys.length ≤ sizeLine→∀ (h':Heap) (c':Nat),(∀ b o',s.heap.get? b = some o'→h'.get? b = some o')→
      h'.get? s.heap.objs.size = some { cls:=.type "list",dict:=none,data:=.seq its.toArray c',slots:=#[] }→EP X pins σ Q (.ref s.heap.objs.size) { s with heap:=h' }:=fun its r' hz h' c' kp e=>
    ⟨.ref s.heap.objs.size,_,I.laid (t':=s.toks) kp (Nat.le_refl _) (show ObjOk X.prog X.w _ h' _ (.lst ys) from ⟨hz,its,c',r',e⟩),rfl,q _ (I.hok.fresh (Nat.le_refl _))⟩
  rcases hq with hq | hq
  · obtain ⟨its,r',pl,hz⟩:=I.list hq
    have hlen:=r'.length
    obtain ⟨o,ho,hc,n,hd⟩:=pl.isList
    exact call_list_seq p (.inl rfl) ho hc hd (fun h' c' kp e=>fin its r' hz h' c' kp e) (by simp only [List.size_toArray] <;> omega)
  · obtain ⟨its,r',pl,hz⟩:=I.tuple hq
    have hlen:=r'.length
    obtain ⟨o,ho,hc,n,hd⟩:=pl
    exact call_list_seq p (.inr rfl) ho hc hd (fun h' c' kp e=>fin its r' hz h' c' kp e) (by simp only [List.size_toArray] <;> omega)
def tyV (K:PySem.W.Frag) (T:String) (x:V) (H:Hp):Prop:=match x with
  | .str _=>T = "str"
  | .int _=>T = "int"
  | .ref p => (T = "list" ∧ ∃ xs, SqL K H p xs) ∨ (T = "tuple" ∧ ∃ o, K.lookup p = some o ∧ o.cls = .type "tuple" ∧ o.dict = none) ∨
      (T = "dict" ∧ ((∃ kvs, H p = some (.dK kvs)) ∨ ∃ kvs, H p = some (.dT kvs))) ∨ (T = "set" ∧ ∃ S n, H p = some (.set S n))
  | _=>False
theorem tyV_is {pins:List (Addr × Obj)} {σ:St} {H:Hp} {s:Shared} {T:String} {x:V} {v:Value} (I:Inv X pins σ H s) (r:RelV x v) (ty:tyV X.K T x H) :
    s.TypeIs v T∧∀ a,v = .ref a→∃ ob,s.heap.get? a = some ob∧ob.dict = none:=by
  cases x with
  | str z=>
    obtain ⟨t,rfl⟩:=r
    cases (show T = "str" from ty)
    exact ⟨typeIs_str s z t,fun _ e=>nomatch e⟩
  | int i=>
    obtain ⟨t,rfl⟩:=r
    cases (show T = "int" from ty)
    exact ⟨typeIs_int s i t,fun _ e=>nomatch e⟩
  | ref p=>
    cases r
    rcases ty with ⟨rfl,xs,hq⟩ | ⟨rfl,o,hk,hc,hd⟩ | ⟨rfl,hk⟩ | ⟨rfl,S,n,hk⟩
    · obtain ⟨its,_,pl,_⟩:=I.list hq
      refine ⟨pl.isList.typeIs,fun a e=>?_⟩
      cases e
      obtain ⟨o,n,e,c,hd,_⟩:=pl
      exact ⟨o,e,hd⟩
    · refine ⟨⟨o,I.kIn p o hk,hc⟩,fun a e=>?_⟩
      cases e
      exact ⟨o,I.kIn _ o hk,hd⟩
    · have z:∃ o,s.heap.get? p = some o∧o.ExactDict:=by
        rcases hk with ⟨kvs,hk⟩ | ⟨kvs,hk⟩
        · obtain ⟨_,_,_,_,o,_,_,e,ex,_⟩:=I.hok p _ hk
          exact ⟨o,e,ex⟩
        · obtain ⟨_,_,_,_,o,_,_,e,ex,_⟩:=I.hok p _ hk
          exact ⟨o,e,ex⟩
      obtain ⟨o,e,ex⟩:=z
      refine ⟨⟨o,e,ex.1⟩,fun a e2=>?_⟩
      cases e2
      exact ⟨o,e,ex.2.1⟩
    · obtain ⟨o,_,_,_,e,ex,_⟩:=I.hok p _ hk
      refine ⟨⟨o,e,ex.1⟩,fun a e2=>?_⟩
      cases e2
      exact ⟨o,e,ex.2.1⟩
  | _=>exact False.elim ty
def tBM0 (K:PySem.W.Frag) (T:String) (r:V→List V→Hp→VK→Prop) (to:TE):TE:=fun σ H Q=>to σ H fun x H1=>tyV K T x H1∧r x [] H1 Q
def tBM (K:PySem.W.Frag) (T:String) (r:V→List V→Hp→VK→Prop) (to:TE) (t:TA):TE:=fun σ H Q=>to σ H fun x H1=>tyV K T x H1∧t σ H1 fun xs H2=>r x xs H2 Q
variable {o e:Expr} {es:List Expr} {to:TE} {t:TA} {name:Str} {apos cpos:Pos} {T id:String} {r:V→List V→Hp→VK→Prop}
theorem pe_bm0 (pa:PlainAttrs T) (slot:Slot T name id) (hty:typeOf (.builtin id) = pure (.type "method_descriptor")) (hm:MtR X id r) (ho:PE X o to)
    (hbase:attributeBase o name X.env (eval o X.env) = eval o X.env:=by rfl) (hline:(apos.endLine == cpos.line) = true:=by rfl):PE X (.Call (.Attribute o name apos) [] [] cpos) (tBM0 X.K T r to):=by
  intro pins s σ H Q I h
  refine wpAny_Call_method0_late hbase hline (thn (ho pins s σ H _ I h) fun v s1 ⟨x,H1,I1,r1,ty,q1⟩=>?_)
  obtain ⟨h1,h2⟩:=tyV_is I1 r1 ty
  exact ⟨T,id,pa,slot,hty,h1,h2,Calls.callWith_builtin rfl (PySem.evalArgs_none (hm pins s1 σ H1 x [] v [] Q I1 r1 .nil q1))⟩
theorem pe_bm (pa:PlainAttrs T) (slot:Slot T name id) (hty:typeOf (.builtin id) = pure (.type "method_descriptor")) (hm:MtR X id r) (ho:PE X o to) (ha:PA X (e :: es) t)
    (hbase:attributeBase o name X.env (eval o X.env) = eval o X.env:=by rfl)
    (hfew:((backTo cpos (starEach (e :: es) X.env)).all (fun x=>!x.1) && (backToKw cpos (keywordEach [] X.env)).all (fun x=>x.1.isSome)
      && decide ((e :: es).length + ([]:List Keyword).length + (if ([]:List Keyword).isEmpty then 0 else 1) < 30)) = true:=by rfl)
    (hline:(apos.endLine == cpos.line) = true:=by rfl) (hs:starEach (e :: es) X.env = (false,eval e X.env) :: starEach es X.env:=by rfl) (hplain:(backTo cpos (starEach es X.env)).any (·.1) = false:=by rfl) :
    PE X (.Call (.Attribute o name apos) (e :: es) [] cpos) (tBM X.K T r to t):=by
  intro pins s σ H Q I h
  refine wpAny_Call_method_late hbase hfew hline rfl (thn (ho pins s σ H _ I h) fun v s1 ⟨x,H1,I1,r1,ty,q1⟩=>?_)
  obtain ⟨h1,h2⟩:=tyV_is I1 r1 ty
  refine ⟨T,id,pa,slot,hty,h1,h2,?_⟩
  have hA:=ha cpos pins s1 σ H1 _ I1 q1
  rw [hs] at hA ⊢
  refine Calls.callWith_builtin (by show (false || (backTo cpos (starEach es X.env)).any (·.1)) = false; rw [hplain] <;> rfl) (Calls.evalArgs_plain ?_)
  exact thn hA fun us s2 ⟨vs,H2,I2,r2,q2⟩=>hm pins s2 σ H2 x vs v us Q I2 r1 r2 q2
/- xs.append(e),list.index on a module's tuple .. are MtR facts of 06m -/
end
def MtM (X:Cx) (id:String) (r:V→List V→Hp→VK→Prop):Prop:=
  ∀ (pins:List (Addr × Obj)) (s:Shared) (σ:St) (H:Hp) (x:V) (xs:List V) (v:Value) (us:List Value) (Q:VK),Inv X pins σ H s→RelV x v→Vals xs us→r x xs H Q→
    wpAny (model X.prog X.w) X.A (call (.builtin id) (v :: us)) (EP X pins σ Q) X.xe s
theorem Vals.one:∀ {x:V} {us:List Value},Vals [x] us→∃ u,us = [u]∧RelV x u
  | _,_,.cons r .nil=>⟨_,rfl,r⟩
theorem Vals.zero:∀ {us:List Value},Vals [] us→us = []
  | _,.nil=>rfl
theorem Vals.eraseIdx:∀ {xs:List V} {us:List Value} (i:Nat),Vals xs us→Vals (xs.eraseIdx i) (us.eraseIdx i)
  | _,_,_,.nil=>.nil
  | _,_,0,.cons _ t=>t
  | _,_,i + 1,.cons r t=>.cons r (Vals.eraseIdx i t)
theorem Vals.reverse {xs:List V} {us:List Value} (h:Vals xs us):Vals xs.reverse us.reverse:=by
  induction h with
  | nil=>exact .nil
  | cons r t ih=>rw [List.reverse_cons,List.reverse_cons]; exact Vals.append ih (.cons r .nil)
theorem len_erase {α:Type}:∀ (l:List α) (i:Nat),(l.eraseIdx i).length ≤ l.length
  | [],_=>Nat.le_refl _
  | _ :: _,0=>Nat.le_succ _
  | _ :: r,i + 1=>Nat.succ_le_succ (len_erase r i)
section
variable {X:Cx} {pins:List (Addr × Obj)} {σ:St} {H:Hp} {s:Shared} {l b:Addr} {xs ys zs:List V}
theorem Inv.lset {its its':List Value} {n:Nat} {f:Array Value→Array Value} {t':Nat} (I:Inv X pins σ H s) (hH:H l = some (.lst xs))
    (e:s.heap.get? l = some { cls:=.type "list",data:=.seq its.toArray n }) (hf:f its.toArray = its'.toArray) (hv:Vals ys its') (hz:ys.length ≤ sizeLine) :
    Inv X pins σ (upd H l (.lst ys)) { s with heap:=s.heap.update l (Obj.mapSeq f),toks:=t' }:=by
  have q:=PySem.IsL.update e f
  rw [hf] at q
  refine I.write (x:=l) (e:=l) (by rw [hH]; exact trivial) (.inl rfl) (fun b' u hb hu=>(Heap.get?_update_other s.heap (Obj.mapSeq f) (Ne.symm hb)).trans hu) ⟨_,q⟩ ?_
  exact ⟨hz,its',_,hv,q⟩
theorem Inv.lnew {its:List Value} {t':Nat} (I:Inv X pins σ H s) (hv:Vals ys its) (hz:ys.length ≤ sizeLine) :
    Inv X pins σ (upd H s.heap.objs.size (.lst ys)) { s with heap:=s.heap.push { cls:=.type "list",data:=.seq its.toArray },toks:=t' }:=
  I.laid (fun _ _ q=>Heap.get?_push_of_some _ q) (Nat.le_refl _) ⟨hz,its,0,hv,Heap.get?_push_size _ rfl⟩
theorem Inv.fresh (I:Inv X pins σ H s):H s.heap.objs.size = none:=I.hok.fresh (Nat.le_refl _)
theorem Inv.lstM (I:Inv X pins σ H s) (hH:H l = some (.lst xs)):xs.length ≤ sizeLine∧∃ (its:List Value) (n:Nat),Vals xs its∧xs.length = its.length∧s.heap.get? l = some { cls:=.type "list",data:=.seq its.toArray n }:=by
  obtain ⟨z,its,n,r,e⟩:=I.hok l _ hH
  exact ⟨z,its,n,r,r.length,e⟩
end
section
variable {X:Cx}
def rAppend:V→List V→Hp→VK→Prop:=fun x vs H Q=>∃ l xs y,x = .ref l∧vs = [y]∧H l = some (.lst xs)∧xs.length < sizeLine∧Q .non (upd H l (.lst (xs ++ [y])))
theorem mt_append:MtM X "list.append" rAppend:=by
  intro pins s σ H x vs v us Q I rx rv h
  obtain ⟨l,xs,y,rfl,rfl,hH,hz,q⟩:=h
  cases rx
  obtain ⟨u,rfl,ru⟩:=rv.one
  obtain ⟨z,its,n,r,hl,e⟩:=I.lstM hH
  refine call_meets F.slot_list_append ⟨_,e,rfl⟩ F.entry_list_append (F.args_list_append_2 _ _) (PySem.list_append l its.toArray n u (by rw [List.size_toArray]; omega)) ⟨e,?_⟩
  refine ⟨.non,_,I.lset (its':=its ++ [u]) hH e (by simp) (r.append (.cons ru .nil)) ?_,rfl,q⟩
  rw [List.length_append,List.length_singleton]
  omega
def rPopAt:V→List V→Hp→VK→Prop:=fun x vs H Q=>∃ l xs i k y,x = .ref l∧vs = [.int i]∧H l = some (.lst xs)∧-(2 ^ 63) ≤ i∧i < 2 ^ 63∧seqIndex? i xs.length = some k∧xs[k]? = some y∧Q y (upd H l (.lst (xs.eraseIdx k)))
theorem mt_popAt:MtM X "list.pop" rPopAt:=by
  intro pins s σ H x vs v us Q I rx rv h
  obtain ⟨l,xs,i,k,y,rfl,rfl,hH,h1,h2,hk,hy,q⟩:=h
  cases rx
  obtain ⟨u,rfl,ru⟩:=rv.one
  obtain ⟨t,rfl⟩:=ru
  obtain ⟨z,its,n,r,hl,e⟩:=I.lstM hH
  obtain ⟨w,hw,rw'⟩:=r.get hy
  refine call_meets F.slot_list_pop ⟨_,e,rfl⟩ F.entry_list_pop (F.args_list_pop_2 _ _)
    (MeetsSeq.list_pop_at l its.toArray n i t k w (fitsIndex_both h1 h2) (by rw [List.size_toArray,← hl]; exact hk) (by rw [← Array.getElem?_toList]; exact hw) (by rw [List.size_toArray]; omega)) ⟨e,?_⟩
  refine ⟨y,_,I.lset (its':=its.eraseIdx k) hH e ?_ (r.eraseIdx k) ?_,rw',q⟩
  · show its.toArray.eraseIdxIfInBounds k = (its.eraseIdx k).toArray
    rw [List.eraseIdxIfInBounds_toArray]
  · have:=len_erase xs k
    omega
def rCat:R2:=fun x y H Q=>∃ l b xs zs,x = .ref l∧y = .ref b∧H l = some (.lst xs)∧H b = some (.lst zs)∧xs.length + zs.length ≤ sizeLine∧∀ p,H p = none→Q (.ref p) (upd H p (.lst (xs ++ zs)))
theorem op_cat:OpR X (binaryOp .Add) rCat:=by
  intro pins s σ H x y v u Q I rx ry h
  obtain ⟨l,b,xs,zs,rfl,rfl,hH,hB,hz,q⟩:=h
  cases rx
  cases ry
  obtain ⟨z,its,n,r,hl,e⟩:=I.lstM hH
  obtain ⟨z2,its2,n2,r2,hl2,e2⟩:=I.lstM hB
  refine PySem.P.add_list e e2 ?_ (by rw [List.size_toArray,List.size_toArray]; omega)
  have ea:its.toArray ++ its2.toArray = (its ++ its2).toArray:=by simp
  rw [ea]
  exact ⟨.ref _,_,I.lnew (t':=s.toks) (r.append r2) (by rw [List.length_append]; omega),rfl,q _ I.fresh⟩
end
end L2
namespace Att
open PySem PySem.W PySem.Calls PyProof.Rows
theorem ints_of_wellAll {P:Params} {h:Heap}:∀ (ns:List Int) (vs:List Value),WellAll P h vs (ns.map WData.int)→IntsAre vs ns:=by
  intro ns
  induction ns with
  | nil=>
    intro vs w
    rw [List.map_nil] at w
    cases w
    exact .nil
  | cons n ns ih=>
    intro vs w
    rw [List.map_cons] at w
    cases w with
    | cons a b=>
      cases a
      exact .cons _ _ (ih _ b)
theorem script_of {l:OpenLaw} {n:Nat} (hn:l.most = some n) {P:Params} {h:Heap} {args:List WData} {vals:List Value}
    (hpre:l.row.toRowW.claim.pre args = true) (hwl:WellAll P h vals args) :
    ∃ a vs ns,vals = [Value.ref a]∧args = [WData.list (ns.map WData.int)]∧h.get? a = some { cls:=.type "list",data:=.seq vs.toArray }∧IntsAre vs ns∧ns.length ≤ n:=by
  have hsh:WShape.hasAll [] args [.list .int] = true:=(pre_splitW hpre).1
  have hc:l.pre.holds [] { args:=args } = true:=(pre_splitW hpre).2
  obtain ⟨d,r,rfl,h1,h2⟩:=hasAllW_cons hsh
  obtain rfl:=hasAllW_nil h2
  obtain ⟨xs,rfl,h3⟩:=hasW_list h1
  obtain ⟨ns,rfl⟩:=items_int h3
  have hlen:ns.length ≤ n:=by
    unfold OpenLaw.pre at hc
    have h4:(WTm.not (.lt (.lit (.int (n:Int))) (.len (.arg 0)))).holds [] { args:=[.list (ns.map .int)] } = true:=by
      have h4:=(holds_andW hc).1
      rw [hn] at h4
      exact h4
    have h5:=condW_of h4 (w_not (w_lt w_lit (w_len_list (w_arg rfl))))
    rw [List.length_map] at h5
    refine Nat.le_of_not_lt fun q=>?_
    have q':(n:Int) < ((ns.length:Nat):Int):=by omega
    first
      | (rw [decide_eq_true q'] at h5; exact absurd h5 (by decide))
      | (simp at h5; omega)
  cases hwl with
  | cons w1 w2=>
    cases w2
    cases w1 with
    | list ho hall=>exact ⟨_,_,ns,rfl,rfl,ho,ints_of_wellAll ns _ hall,hlen⟩
theorem post_true (l:OpenLaw) (args:List WData):l.row.toRowW.claim.post args (.bool true) args = true:=
  postW_of (r:=l.row.toRowW) (X:=(true == true))
    (show WShape.has [] (.bool true) .bool = true by first | rfl | decide | simp [WShape.has,WShape.arms,WShape.armsAll])
    (show (WTm.eq .res (.lit (.bool true))).value [] { args:=args,res:=some (.bool true),after:=args } = some (.bool (true == true)) from w_eq_bool (w_res rfl) w_lit) rfl
theorem attach_call {l:OpenLaw} {n:Nat} {q:Program} {loose:List Str} {XP:(Str→Option Value)→Heap→Prop} {YP:World→Heap→Prop} {d:DefRec}
    (hn:l.most = some n) (hdf:d.params.defaults = [])
    (call:∀ (w:World) (s₀ s₁:Shared) (mg mb:Str→Option Value) (fa:Addr) (o:Obj) (pm cd doc:Value) (a:Addr) (vs:List Value) (ns:List Int),
      Ground q loose [] XP w s₀ mg mb s₁.heap→YP w s₁.heap→
      s₁.heap.get? fa = some o→o.data = .func (docDef d.name d.params d.body d.scope pm cd doc)→s₁.heap.CodeRec cd d.name→mg d.name = some (.ref fa)→
      s₁.heap.get? a = some { cls:=.type "list",data:=.seq vs.toArray }→IntsAre vs ns→ns.length ≤ n→s₁.gens = #[]→
      codeAny (model l.prog w) callerA (.call (.ref fa) ⟨[.ref a],[]⟩) (fun r s'=>r = .ok (.ret (.bool true))∧OldK s₁.heap s'.heap∧s'.os = s₁.os∧AllBare s'.gens) s₁) :
    WalkO q loose XP YP l.row.toRowW d [] (fun f vs=>PySem.call f vs):=by
  intro w s₀ s₁ mg mb G Y fa o pm cd doc dV kV ho hd hcd hD hmg hg args vals as hpre hlay hrd hwl hlo
  obtain rfl:dV = .none:=Dflts.none hD hdf
  obtain rfl:kV = .none:=Dflts.noKw hD
  obtain ⟨a,vs,ns,rfl,rfl,hobj,hints,hlen⟩:=script_of hn hpre hwl
  refine enter_call (codeAny_mono (call w s₀ s₁ mg mb fa o pm cd doc a vs ns G Y ho (fd_plain hd) hcd hmg hobj hints hlen hg) fun r s' hq=>?_)
  obtain ⟨rfl,h2,h3,h4⟩:=hq
  exact ⟨.inl ⟨.bool true,.bool true,[],rfl,fun _=>rfl,.bool true,post_true l _,fun _=>⟨List.Pairwise.nil,fun _ hm=>(nomatch hm)⟩⟩,h2,h3,h4⟩
end Att
namespace L2
open PySem PySem.Spec PyProof.Rows
theorem vals_ints:∀ {vs:List Value} {ns:List Int},IntsAre vs ns→Vals (ns.map V.int) vs
  | _,_,.nil=>.nil
  | _,_,.cons n t h=>.cons ⟨t,rfl⟩ (vals_ints h)
def Only (H:Hp):Prop:=∀ b,H b = none ∨ ∃ o xs,H b = some (.frz o (.lst xs))
theorem law_call {P:Program} {w:World} {K:PySem.W.Frag} {mg mb:Str→Option Value} {CX:CXT} {k:Nat} {fa a:Addr} {fd:FuncData} {x:Str} {sp:Sp} {s₁:Shared} {vs:List Value} {ns:List Int}
    (KX:K.In s₁.heap) (hns:s₁.heap.Ns mainGlobals mg) (hb:s₁.heap.Ns builtinsNs mb) (hbb:∀ x:Str,x ≠ "__name__"→mb x = bootBuiltins x) (hlim:s₁.heap.NoLimit) (hg:s₁.gens = #[])
    (ha:s₁.heap.get? a = some { cls:=.type "list",data:=.seq vs.toArray }) (hi:IntsAre vs ns) (hl:ns.length ≤ sizeLine) (hr:Room k callerA)
    (F:∀ base:Heap,K.In base→base.Ns mainGlobals mg→FnOk P w K mg base CX k fa fd [x] sp) (hbind:∀ (s:Shared) (u:Value),BindsTo s fd ⟨[u],[]⟩ [(x,u)])
    (hsp:∀ H:Hp,Only H→SqL K H a (ns.map V.int)→sp [.ref a] H (fun v _=>v = .bl true) fun _ _ _=>False)
    (hCX:∀ H e s',CX [] H s₁ (fun _ _ _=>False) e s'→False) :
    codeAny (model P w) callerA (.call (.ref fa) ⟨[.ref a],[]⟩) (fun r s'=>r = .ok (.ret (.bool true))∧OldK s₁.heap s'.heap∧s'.os = s₁.os∧AllBare s'.gens) s₁:=by
  have rv:=vals_ints hi
  have lenV:=hi.length
  -- from an abstract heap in which nothing but the script may be tracked
  have core:∀ H:Hp,Only H→SqL K H a (ns.map V.int)→HOk P w H s₁.heap→(∀ b,H b ≠ none→b = a)→(H a ≠ none→K.lookup a = none)→
      codeAny (model P w) callerA (.call (.ref fa) ⟨[.ref a],[]⟩) (fun r s'=>r = .ok (.ret (.bool true))∧OldK s₁.heap s'.heap∧s'.os = s₁.os∧AllBare s'.gens) s₁:=by
    intro H hO hS hok hA hK
    have base_of:∀ {b:Addr} {o:Obj},s₁.heap.get? b = some o→H b = none→(hidT s₁.heap H).get? b = some o:=fun e n=>hidT_get e n
    have noA:∀ {b:Addr} {o:Obj} {es:Array DictEntry} {ep:Nat},s₁.heap.get? b = some o→o.data = .dict es ep→H b = none:=fun {b o es ep} e d=>by
      cases q:H b with
      | none=>rfl
      | some u=>
        have e':b = a:=hA b (by rw [q]; simp)
        subst e'
        rw [ha] at e; cases e
        have d':Data.seq vs.toArray _ = Data.dict es ep:=d
        cases d'
    have nsK:∀ {b:Addr} {m:Str→Option Value},s₁.heap.Ns b m→(hidT s₁.heap H).Ns b m:=fun {b m} ⟨o,es,ep,e,d,r⟩=>⟨o,es,ep,base_of e (noA e d),d,r⟩
    have hKb:K.In (hidT s₁.heap H):=fun b o e=>base_of (KX b o e) (by
      cases q:H b with
      | none=>rfl
      | some u=>
        have e':b = a:=hA b (by rw [q]; simp)
        subst e'
        rw [hK (by rw [q]; simp)] at e; cases e)
    have hM:Mod K mg (hidT s₁.heap H):=⟨hKb,nsK hns,⟨mb,nsK hb,hbb⟩,let ⟨mc,h1,h2⟩:=hlim; ⟨mc,nsK h1,h2⟩⟩
    have e0:Env0 P w K mg (hidT s₁.heap H) callerA [] s₁ H:=⟨rfl,hM,fun b o e=>of_hidT e,Nat.le_of_eq (hidT_size _ _),trivial,fun b hb=>absurd (show b ∈ ([]:List Addr) from hb) (by simp),hok,.of_eq hg⟩
    refine codeAny_mono ((F _ hKb (nsK hns)).run callerA [] s₁ H ⟨[.ref a],[]⟩ [.ref a] [.ref a] _ _ hr e0 (hbind s₁ (.ref a)) (.cons rfl .nil) (hsp H hO hS)) fun r s' h=>?_
    cases r with
    | error e=>exact (hCX H e s' h).elim
    | ok fl=>
      cases fl with
      | next=>exact False.elim h
      | brk=>exact False.elim h
      | cont=>exact False.elim h
      | ret u=>
        obtain ⟨v,H',os,bare,un,hok',r',q⟩:=h
        have q':v = .bl true:=q
        subst q'
        obtain rfl:u = Value.bool true:=r'
        refine ⟨rfl,OldK.of_keep fun b o e=>?_,os,bare⟩
        cases q:H b with
        | none=>exact un.keep b o e q (by intro z; exact absurd (show b ∈ ([]:List Addr) from z) (by simp)) (by simp)
        | some u=>
          rcases hO b with z | ⟨ob,xs,z⟩
          · rw [q] at z; cases z
          · have z2:=un.frzs b ob _ z
            obtain ⟨e1,_⟩:=hok b _ z
            obtain ⟨e2,_⟩:=hok' b _ z2
            rw [e] at e1; cases e1
            exact e2
  cases hk:K.lookup a with
  | some o=>
    -- the script is one of the module's own objects
    have e:=KX a o hk
    rw [ha] at e
    cases e
    refine core (fun _=>none) (fun _=>.inl rfl) (.inr ⟨_,vs.toArray,_,hk,rfl,rfl,rfl,by rw [List.size_toArray,lenV]; exact hl,by simpa using rv⟩) (fun b u z=>by have z':(none:Option HO) = some u:=z; cases z') (fun b z=>absurd rfl z) fun z=>absurd rfl z
  | none=>
    refine core (fun b => if b = a then some (.frz { cls := .type "list", data := .seq vs.toArray } (.lst (ns.map V.int))) else none) (fun b => ?_) (.inl (.inr ⟨{ cls := .type "list", data := .seq vs.toArray }, if_pos rfl⟩)) (fun b u z => ?_) (fun b z => ?_) fun _ => hk
    · by_cases hb:b = a
      · exact .inr ⟨_,_,if_pos hb⟩
      · exact .inl (if_neg hb)
    · by_cases hb:b = a
      · have z':=(if_pos hb).symm.trans z
        cases z'
        subst hb
        exact ⟨ha,by rw [List.length_map]; exact hl,vs,_,rv,ha⟩
      · have z':=(if_neg hb).symm.trans z
        cases z'
    · by_cases hb:b = a
      · exact hb
      · exact absurd (if_neg hb) z
abbrev KOf {K:PySem.W.Frag} {h:Heap} (_:K.In h):PySem.W.Frag:=K
theorem walk_of {l:PySem.W.OpenLaw} {n k:Nat} {q:Program} {loose:List Str} {XP:(Str→Option Value)→Heap→Prop} {YP:World→Heap→Prop} {d:DefRec} {K:Params→PySem.W.Frag} {CX:World→CXT} {sp:World→Sp} {x:Str}
    (hn:l.most = some n) (hn2:n ≤ sizeLine) (hdf:d.params.defaults = []) (hr:Room k callerA)
    (hY:∀ (w:World) (h:Heap),YP w h→(K w.params).In h)
    (F:∀ (w:World) (mg:Str→Option Value) (fa:Addr) (h:Heap),(K w.params).In h→h.Ns mainGlobals mg→mg d.name = some (.ref fa)→
      ∃ fd:FuncData,(∀ (s:Shared) (u:Value),BindsTo s fd ⟨[u],[]⟩ [(x,u)])∧
        ∀ base:Heap,(K w.params).In base→base.Ns mainGlobals mg→FnOk l.prog w (K w.params) mg base (CX w) k fa fd [x] (sp w))
    (hsp:∀ (w:World) (H:Hp) (a:Addr) (ns:List Int),ns.length ≤ n→Only H→SqL (K w.params) H a (ns.map V.int)→sp w [.ref a] H (fun v _=>v = .bl true) fun _ _ _=>False)
    (hCX:∀ (w:World) (H:Hp) (s:Shared) (e:Value) (s':Shared),CX w [] H s (fun _ _ _=>False) e s'→False) :
    PySem.W.WalkO q loose XP YP l.row.toRowW d [] (fun f vs=>PySem.call f vs):=by
  refine Att.attach_call hn hdf fun w s₀ s₁ mg mb fa o pm cd doc a vs ns G Y ho hd hcd hmg hobj hints hlen hg=>?_
  have KX:=hY w _ Y
  obtain ⟨fd,hb,hF⟩:=F w mg fa _ KX G.T.g hmg
  exact law_call KX G.T.g G.T.b G.T.builtins G.T.nolimit hg hobj hints (Nat.le_trans hlen hn2) hr hF hb (fun H hO hS=>hsp w H a ns hlen hO hS) fun H e s'=>hCX w H s₁ e s'
end L2
/- THE LAST THEOREM (shape; LID,My.* are yours):
   My.Adr: a structure of the addresses that your layer names (classes,functions); My.Txt K t: a structure (Prop) of the equations over K;
   My.txt_mk : {K} {implicit addresses ..} (e1 : nsIn K mainGlobals "law" = some (some (.ref f))) (e2 : K.lookup f = some ⟨oc, od, .func (fnOf "law" "law" params body scope dV kV doc pm an cdv ct), sl⟩) (e3 : codeIn K cdv "law" = true) .. : ∃ t, My.Txt K t
set_option maxRecDepth 100000 in
set_option maxHeartbeats 0 in
theorem PySem.Challenge.cw_LID_holds : PySem.Challenge.rw_LID.Holds := by
  w_on; o_law; k_head; (case hw=>w_witness2)
  k_fill
  refine L2.walk_of (l:=PySem.Challenge.rw_LID) (n:=63) (k:=40) (x:="script") (CX:=fun w=>..) (sp:=fun _=>My.sp_law) rfl (by decide) rfl ⟨rfl,by decide,by decide⟩ (fun w h Y=>PySem.W.kIn_of Y) ?F ?S ?C
  case F=>
    intro w mg fa h KX G hmg
    have T:∃ t,My.Txt (L2.KOf KX) t:=by
      dsimp only [L2.KOf]                          -- K must stand as «<heap const> w.params» for k_is
      refine' My.txt_mk ?e1 ?e2 ?e3 ..
      (case e1=>PySem.W.k_is)                    -- in the order: a name -> its address -> its object -> its parts
      (case e2=>PySem.W.k_is)
      ..
    obtain ⟨t,T⟩:=T
    have e0:=hmg.symm.trans (PySem.W.mg_of KX G T.law)
    cases e0                                       -- fa is the law's own address
    exact ⟨_,fun s u=>.of_eq rfl,fun base kb nb=>My.law_fn T kb nb⟩     -- if «.of_eq rfl» comes too early: refine' ⟨_,?b,fun base kb nb=>My.law_fn T kb nb⟩; exact fun s u=>.of_eq rfl
  case S=>exact fun w H a ns hl hO hS=>..
  case C=>exact ..
(the tactic k_is has no namespace: write k_is) -/
namespace L2
open PySem PySem.Spec PyProof.Rows
def defArgs (s:Stmt):Arguments:=match s with
  | .FunctionDef _ a _ _ _ _ _ _ _ _=>a
  | _=>{ posonlyargs:=[],args:=[],vararg:=none,kwonlyargs:=[],kw_defaults:=[],kwarg:=none,defaults:=[] }
def defBody (s:Stmt):List Stmt:=match s with
  | .FunctionDef _ _ b _ _ _ _ _ _ _=>b
  | _=>[]
def defScope (s:Stmt):Scope:=match s with
  | .FunctionDef _ _ _ _ _ _ sc _ _ _=>sc
  | _=>{ kind:=.function,names:=[],isGenerator:=false,isCoroutine:=false }
abbrev CX0:CXT:=fun _ _ _ _ _ _=>False
abbrev E0:XK:=fun _ _ _=>False
theorem pass0 {X:Cx}:Passes CX0 X E0:=fun _ _ _ _ _ _ _ h=>h.elim
structure Fun (K:PySem.W.Frag) (x qual:Str) (st:Stmt) (f:Addr) (fd:FuncData):Prop where
  ex:∃ (oc:Value) (od:Option Addr) (kV doc pm:Value) (an:Option Addr) (cdv ct:Value) (osl:Array (Option Value)),
    fd = PySem.W.fnOf x qual (defArgs st) (defBody st) (defScope st) .none kV doc pm an cdv ct∧K.lookup f = some ⟨oc,od,.func fd,osl⟩∧PySem.W.codeIn K cdv qual = true
  kp:PySem.W.keepIn K (.ref f) = true
section
variable {P:Program} {w:World} {K:PySem.W.Frag} {mg:Str→Option Value} {base:Heap}
theorem Fun.ok {x qual:Str} {st:Stmt} {f:Addr} {fd:FuncData} {N ps:List Str} {k:Nat} {sp:Sp} (F:Fun K x qual st f fd) (S:FnScope N ps (defScope st)) (len:∀ vs H Q E,sp vs H Q E→vs.length = ps.length)
    (hbody:∀ (cdv:Value) (A:Around) (outer:List Env) (s:Shared) (H:Hp) (vs:List V) (Q:VK) (E:XK),Room k (A.deeper (envOfC qual (defScope st) s.heap.objs.size f cdv))→sp vs H Q E→
      ∃ t,PSs (cxOf CX0 P w K mg base N qual (defScope st) f cdv A outer s H E).nox (defBody st) t∧t { nx:=fun _ H'=>Q .non H',rt:=Q } (start N vs) H):FnOk P w K mg base CX0 (k + 1) f fd ps sp:=by
  obtain ⟨oc,od,kV,doc,pm,an,cdv,ct,osl,rfl,lk,hcd⟩:=F.ex
  refine fn_of lk hcd S len fun A outer s H vs Q E hr hsp=>?_
  obtain ⟨t,h,q⟩:=hbody cdv A outer s H vs Q E hr hsp
  exact ⟨t,h.nox,q⟩
theorem Fun.binds {x qual:Str} {st:Stmt} {f:Addr} {fd:FuncData} {ps:List Str} (F:Fun K x qual st f fd)
    (h:∀ (kV doc pm:Value) (an:Option Addr) (cdv ct:Value) (us:List Value),us.length = ps.length→bindArgs (PySem.W.fnOf x qual (defArgs st) (defBody st) (defScope st) .none kV doc pm an cdv ct) ⟨us,[]⟩ = pure (ps.zip us)):Binds K fd ps []:=by
  obtain ⟨oc,od,kV,doc,pm,an,cdv,ct,osl,rfl,lk,hcd⟩:=F.ex
  exact .all (h kV doc pm an cdv ct)
theorem fun_mk {x qual:Str} {st:Stmt} {f:Addr} {oc:Value} {od an:Option Addr} {osl:Array (Option Value)} {kV doc pm cdv ct:Value} (l:K.lookup f = some ⟨oc,od,.func (PySem.W.fnOf x qual (defArgs st) (defBody st) (defScope st) .none kV doc pm an cdv ct),osl⟩)
    (c:PySem.W.codeIn K cdv qual = true) (k:PySem.W.keepIn K (.ref f) = true):Fun K x qual st f (PySem.W.fnOf x qual (defArgs st) (defBody st) (defScope st) .none kV doc pm an cdv ct):=⟨⟨oc,od,kV,doc,pm,an,cdv,ct,osl,rfl,l,c⟩,k⟩
end
def Same (H H':Hp):Prop:=∀ b o,H b = some o→H' b = some o
theorem Same.refl (H:Hp):Same H H:=fun _ _ h=>h
theorem Same.trans {H H1 H2:Hp} (a:Same H H1) (b:Same H1 H2):Same H H2:=fun c o h=>b c o (a c o h)
theorem Same.seq {K:PySem.W.Frag} {H H':Hp} {a:Addr} {xs:List V} (e:Same H H') (h:SqL K H a xs):SqL K H' a xs:=by
  rcases h with (h | ⟨o,h⟩) | h
  · exact .inl (.inl (e _ _ h))
  · exact .inl (.inr ⟨o,e _ _ h⟩)
  · exact .inr h
theorem compLoop_any {prog:Program} {w:World} {A:Around} {R:Result→Shared→Prop} {s:Shared} {elt target iter:Expr} {ifs:List Expr} {scope:Scope} {pos:Pos} {it acc:Value} {env:Env} (I:Nat→Shared→Prop)
    (turn:∀ n s,I n s→wpAny (model prog w) A (pyNext it) (fun r s₁=>match r with
      | none=>R (.ok .next) s₁
      | some v=>wpAny (model prog w) A (letOwnedTupleGo target it v) (fun _ s₁'=>wpAny (model prog w) A (assign target env v) (fun _ s₂=>
          wpAny (model prog w) A (forIn ifs true fun c r=>if r = true then do let ok ← isTrue c env (eval c env); pure (ForInStep.yield ok) else pure (ForInStep.yield r)) (fun ok s₃=>
            if ok = true then wpAny (model prog w) A (eval elt env) (fun x s₄=>
              wpAny (model prog w) A (call (.builtin "list.append") [acc,x]) (fun _ s₅=>∃ m,m < n∧I m s₅) (fun _ _=>False) s₄) (fun _ _=>False) s₃
            else ∃ m,m < n∧I m s₃) (fun _ _=>False) s₂) (fun _ _=>False) s₁') (fun _ _=>False) s₁) (fun _ _=>False) s)
    (n:Nat) (h:I n s) :
    codeAny (model prog w) A (.compLoop (.ListComp elt [⟨target,iter,ifs,0⟩] scope pos) 0 it acc env) R s:=by
  refine codeAny_loop rfl I (fun n s hI=>?_) n h
  show wpAny _ A ((compTurn (.ListComp elt [⟨target,iter,ifs,0⟩] scope pos) 0 it acc env).onRaise (fun x=>do noteFrame x env; theTreesLotGoes x)) _ _ s
  refine wpAny_noted ?_
  rw [compTurn_list]
  refine wpAny_bind (wpAny_standAt (wpAny_bind (wpAny_mono (turn n s hI) (fun r s₁ h₁=>?_) fun _ _ h'=>h'.elim)))
  cases r with
  | none=>exact wpAny_pure h₁
  | some v=>
    refine wpAny_bind (wpAny_mono h₁ (fun _ s₁' h₁'=>?_) fun _ _ h'=>h'.elim)
    refine wpAny_bind (wpAny_mono h₁' (fun _ s₂ h₂=>wpAny_bind (wpAny_mono h₂ (fun ok s₃ h₃=>?_) fun _ _ h'=>h'.elim)) fun _ _ h'=>h'.elim)
    cases ok with
    | false=>exact wpAny_pure ⟨rfl,h₃⟩
    | true=>
      exact wpAny_bind (wpAny_bind (wpAny_mono h₃ (fun x s₄ h₄=>wpAny_bind (wpAny_mono h₄ (fun _ s₅ h₅=>wpAny_pure (wpAny_pure ⟨rfl,h₅⟩)) fun _ _ h'=>h'.elim)) fun _ _ h'=>h'.elim))
def PTs (X:Cx) (ifs:List Expr) (t:TT):Prop:=
  ∀ (pins:List (Addr × Obj)) (s:Shared) (σ:St) (H:Hp) (Q:Bool→Hp→Prop),Inv X pins σ H s→t σ H Q→
    wpAny (model X.prog X.w) X.A (forIn ifs true fun c r=>if r = true then do let ok ← isTrue c X.env (eval c X.env); pure (ForInStep.yield ok) else pure (ForInStep.yield r)) (TP X pins σ Q) X.xe s
def tYes:TT:=fun _ H Q=>Q true H
theorem pts_nil {X:Cx}:PTs X [] tYes:=fun _ _ _ H _ I h=>wpAny_tests_nil ⟨H,I,h⟩
theorem pts_one {X:Cx} {c:Expr} {t:TT} (h:PT X c t):PTs X [c] t:=fun pins s σ H Q I hw=>wpAny_tests_one (h pins s σ H Q I hw)
theorem closure_ex {env:Env}:∀ (names:List (Str × NameKind)) (acc:List (Str × Addr)),(∀ y ∈ names,y.2 = .free→∃ c,env.cells.lookup y.1 = some c)→(∀ y ∈ acc,env.cells.lookup y.1 = some y.2)→
    ∃ cl:List (Str × Addr),(forIn (m:=Sem) names acc fun (x:Str × NameKind) cs=>if (x.2 == NameKind.free) = true then (do let a ← cellOf env x.1; pure (ForInStep.yield ((x.1,a) :: cs))) else pure (ForInStep.yield cs)) = pure cl∧
      (∀ y ∈ cl,env.cells.lookup y.1 = some y.2)∧(∀ y ∈ acc,y ∈ cl)∧∀ y ∈ names,y.2 = .free→∃ c,(y.1,c) ∈ cl
  | [],acc,_,ha=>⟨acc,rfl,ha,fun _ h=>h,fun _ h=>nomatch h⟩
  | (n,k) :: r,acc,hf,ha=>by
    by_cases hk:k = .free
    · subst hk
      obtain ⟨c,hc⟩:=hf (n,.free) List.mem_cons_self rfl
      obtain ⟨cl,e,h1,h2,h3⟩:=closure_ex r ((n,c) :: acc) (fun y hy=>hf y (List.mem_cons_of_mem _ hy)) (fun y hy=>by
        rcases List.mem_cons.mp hy with rfl | hy
        · exact hc
        · exact ha y hy)
      refine ⟨cl,?_,h1,fun y hy=>h2 y (List.mem_cons_of_mem _ hy),fun y hy hk=>?_⟩
      · rw [List.forIn_cons]
        have e1:cellOf env n = pure c:=by unfold cellOf; rw [hc]
        simp only [beq_self_eq_true,if_true,e1]
        exact e
      · rcases List.mem_cons.mp hy with rfl | hy
        · exact ⟨c,h2 _ List.mem_cons_self⟩
        · exact h3 y hy hk
    · have hb:(k == NameKind.free) = false:=by simpa using hk
      obtain ⟨cl,e,h1,h2,h3⟩:=closure_ex r acc (fun y hy=>hf y (List.mem_cons_of_mem _ hy)) ha
      refine ⟨cl,?_,h1,h2,fun y hy hk'=>?_⟩
      · rw [List.forIn_cons]
        simp only [hb,Bool.false_eq_true,if_false]
        exact e
      · rcases List.mem_cons.mp hy with rfl | hy
        · exact absurd hk' hk
        · exact h3 y hy hk'
theorem closureFor_ex {env:Env} {scope:Scope} (hf:∀ y ∈ scope.names,y.2 = .free→∃ c,env.cells.lookup y.1 = some c) :
    ∃ cl:List (Str × Addr),closureFor scope env = pure cl∧(∀ y ∈ cl,env.cells.lookup y.1 = some y.2)∧∀ y ∈ scope.names,y.2 = .free→∃ c,(y.1,c) ∈ cl:=by
  obtain ⟨cl,e,h1,_,h3⟩:=closure_ex scope.names [] hf (fun _ h=>nomatch h)
  refine ⟨cl,?_,h1,h3⟩
  unfold closureFor
  simp only [bind_pure]
  exact e
abbrev cxComp (X:Cx) (scope:Scope) (cl:List (Str × Addr)) (C:Addr) (N:List Str) (s₀:Shared) (H₀:Hp) (ex:List Addr):Cx where
  prog:=X.prog
  w:=X.w
  K:=X.K
  mg:=X.mg
  base:=X.base
  A:=X.A
  N:=N
  s₀:=s₀
  H₀:=H₀
  env:=compEnvC scope cl C X.env
  outer:=X.stack
  stack:=X.stack
  ex:=ex
  fn:=fun _=>false
  calm:=X.calm
  pn:=[]
  xe:=fun _ _=>False
theorem lookup_mem {α β:Type} [BEq α] [LawfulBEq α] {l:List (α × β)} {x:α} {y:β} (h:l.lookup x = some y):(x,y) ∈ l:=by
  induction l with
  | nil=>cases h
  | cons p r ih=>
    obtain ⟨a,b⟩:=p
    rw [List.lookup_cons] at h
    cases e:(x == a) with
    | true=>rw [e] at h; cases h; rw [eq_of_beq e]; exact List.mem_cons_self
    | false=>rw [e] at h; exact List.mem_cons_of_mem _ (ih h)
theorem mem_lookup {α β:Type} [BEq α] [LawfulBEq α] {l:List (α × β)} {x:α} {y:β} (h:(x,y) ∈ l):∃ z,l.lookup x = some z:=by
  induction l with
  | nil=>cases h
  | cons p r ih=>
    obtain ⟨a,b⟩:=p
    rw [List.lookup_cons]
    cases e:(x == a) with
    | true=>exact ⟨_,rfl⟩
    | false=>
      rcases List.mem_cons.mp h with q | q
      · cases q; simp at e
      · exact ih q
theorem relabel_mem {scope:Scope} {env:Env} {y:Str} {k:NameKind} (h:(y,k) ∈ (relabel scope env).names):(y,k) ∈ scope.names ∨ (k = .cell∧(y,NameKind.free) ∈ scope.names):=by
  unfold relabel at h
  obtain ⟨⟨n,k'⟩,hm,e⟩:=List.mem_map.mp h
  dsimp only at e
  split at e
  · rename_i hc
    cases e
    have:k' = .free:=by
      have:=hc
      simp only [Bool.and_eq_true,beq_iff_eq] at this
      exact this.1.1
    subst this
    exact .inr ⟨rfl,hm⟩
  · cases e; exact .inl hm
theorem lookup_relabel_free {env:Env}:∀ {names:List (Str × NameKind)} {x:Str},names.lookup x = some .free→
    (names.map fun (n,k)=>if (k == NameKind.free && env.scope.kind == .function && env.kindOf n == some .cell) then (n,NameKind.cell) else (n,k)).lookup x = some .cell ∨
    (names.map fun (n,k)=>if (k == NameKind.free && env.scope.kind == .function && env.kindOf n == some .cell) then (n,NameKind.cell) else (n,k)).lookup x = some .free
  | [],_,h=>by simp at h
  | (n,k) :: r,x,h=>by
    have ih:=@lookup_relabel_free env r x
    show List.lookup x ((if (k == NameKind.free && env.scope.kind == .function && env.kindOf n == some .cell) = true then (n,NameKind.cell) else (n,k)) :: _) = _ ∨ List.lookup x ((if (k == NameKind.free && env.scope.kind == .function && env.kindOf n == some .cell) = true then (n,NameKind.cell) else (n,k)) :: _) = _
    cases hx:x == n with
    | true=>
      simp only [List.lookup_cons,hx] at h
      cases h
      by_cases hc:(NameKind.free == NameKind.free && env.scope.kind == .function && env.kindOf n == some .cell) = true
      · rw [if_pos hc]; simp [List.lookup_cons,hx]
      · rw [if_neg hc]; simp [List.lookup_cons,hx]
    | false=>
      simp only [List.lookup_cons,hx] at h
      by_cases hc:(k == NameKind.free && env.scope.kind == .function && env.kindOf n == some .cell) = true
      · rw [if_pos hc]; simp only [List.lookup_cons,hx]; exact ih h
      · rw [if_neg hc]; simp only [List.lookup_cons,hx]; exact ih h
def compSt (fs:List Nat) (σ:St):St:=fs.map fun j=>(σ[j]?).join
def tComp (wi:TI) (fs:List Nat) (tt:TT) (te:TE):TE:=fun σ H Q=>wi σ H fun J H1=>∃ W:Nat→Nat→List V→Hp→Prop,(∃ m,W 0 m [] H1)∧∀ i m ys H,W i m ys H→ys.length ≤ sizeLine∧
  ((J.stop i H∧∀ p,H p = none→Q (.ref p) (upd H p (.lst ys))) ∨
   (J.go i H∧ys.length < sizeLine∧∀ x H',J.yld i H x H'→tt (some x :: compSt fs σ) H' fun b H2=>if b = true then te (some x :: compSt fs σ) H2 fun y H3=>∃ m',m' < m∧W (i + 1) m' (ys ++ [y]) H3 else ∃ m',m' < m∧W (i + 1) m' ys H2))
section
variable {X:Cx}
theorem comp_block {elt iter:Expr} {x:Str} {px pos:Pos} {ifs:List Expr} {scope:Scope} {fs:List (Str × Nat)} {tt:TT} {te:TE}
    {pins:List (Addr × Obj)} {σ:St} {H2:Hp} {s2:Shared} {it:Addr} {fp:List Addr} {tn:Nat→Heap→Prop} {J:It} {cl:List (Str × Addr)} {E:Value→Shared→Prop}
    {P:Value→Addr→Result→Shared→Prop}
    (hc:X.calm = true) (hkind:scope.kind = .function) (hcell:∀ y ∈ scope.names,y.2 ≠ .cell) (hx:scope.names.lookup x = some .local)
    (hnd:(x :: fs.map (·.1)).Nodup) (hfs:∀ f ∈ fs,X.N[f.2]? = some f.1∧(X.env.kindOf f.1 = some .cell ∨ X.env.kindOf f.1 = some .free)∧scope.names.lookup f.1 = some .free)
    (hb:∀ (cl:List (Str × Addr)) (C:Addr) (s₀:Shared) (H₀:Hp) (ex:List Addr),PTs (cxComp X scope cl C (x :: fs.map (·.1)) s₀ H₀ ex) ifs tt∧PE (cxComp X scope cl C (x :: fs.map (·.1)) s₀ H₀ ex) elt te)
    (hcl1:∀ y ∈ cl,X.env.cells.lookup y.1 = some y.2) (hcl2:∀ y ∈ scope.names,y.2 = .free→∃ c,(y.1,c) ∈ cl)
    (I2:Inv X pins σ H2 s2) (T:Turn X.prog X.w X.K (.Name x px) J fp it tn) (st2:tn 0 s2.heap) (f2:∀ b ∈ fp,FpOk X pins H2 b)
    (W:Nat→Nat→List V→Hp→Prop) (Qe:Hp→List V→Prop) (w0:∃ m,W 0 m [] H2)
    (turn:∀ i m ys H,W i m ys H→ys.length ≤ sizeLine∧
      ((J.stop i H∧Qe H ys) ∨
       (J.go i H∧ys.length < sizeLine∧∀ x H',J.yld i H x H'→tt (some x :: compSt (fs.map (·.2)) σ) H' fun b H2=>if b = true then te (some x :: compSt (fs.map (·.2)) σ) H2 fun y H3=>∃ m',m' < m∧W (i + 1) m' (ys ++ [y]) H3 else ∃ m',m' < m∧W (i + 1) m' ys H2)))
    (hP:∀ (D C:Addr) (H':Hp) (s':Shared) (ys:List V) (its:List Value) (m:Str→Option Value),s2.heap.objs.size ≤ C→s2.heap.get? D = none→s2.heap.get? C = none→D ≠ C→H' D = none→H' C = none→s'.heap.Ns C m→s'.heap.PlainList D its.toArray→Vals ys its→ys.length ≤ sizeLine→Qe H' ys→
      Un (frs X.stack) fp H2 H' s2.heap s'.heap→HOk X.prog X.w H' s'.heap→AllBare s'.gens→s'.os = s2.os→P (.ref D) C (.ok .next) s') :
    wpAny (model X.prog X.w) X.A (newList []) (fun acc s₃=>wpAny (model X.prog X.w) X.A (newFunctionEnv scope X.env.globals cl [] X.env.qual none .none (some X.env)) (fun cenv s₄=>
      codeAny (model X.prog X.w) X.A (.compStart (.ListComp elt [⟨.Name x px,iter,ifs,0⟩] scope pos) 0 (.ref it) acc { cenv with scope:=relabel scope X.env }) (P acc cenv.locals) s₄) E s₃) E s2:=by
  refine wpAny_newObj_type (wpAny_newFunctionEnv hcell (by intro y hy; simp at hy) (fun h₁ hns₁ hsb₁=>?_) hkind)
  dsimp only at hns₁ hsb₁ ⊢
  generalize hH2:s2.heap.push { cls:=.type "list",dict:=none,data:=.seq ([]:List Value).toArray } = HH at hns₁ hsb₁ ⊢
  have hC:HH.objs.size = s2.heap.objs.size + 1:=by rw [← hH2,Heap.size_push]
  generalize eD:s2.heap.objs.size = D at *
  generalize eC:HH.objs.size = C at *
  have hDC:D ≠ C:=by rw [hC]; exact Nat.ne_of_lt (Nat.lt_succ_self _)
  have fresh:∀ a,D ≤ a→s2.heap.get? a = none:=fun a ha=>Heap.get?_none_of_le (by rw [eD]; exact ha)
  have hD0:s2.heap.get? D = none:=fresh D (Nat.le_refl _)
  have hC0:s2.heap.get? C = none:=fresh C (by rw [hC]; exact Nat.le_succ _)
  have old:∀ b o,s2.heap.get? b = some o→h₁.get? b = some o:=fun b o e=>hsb₁.extBut b o (fun z=>by rw [z,hC0] at e; cases e) (Heap.get?_push_of_some _ (hH2 ▸ Heap.get?_push_of_some _ e))
  have hacc:h₁.PlainList D #[]:=⟨0,hsb₁.extBut _ _ hDC (Heap.get?_push_of_some _ (hH2 ▸ (eD ▸ Heap.get?_push_size _ rfl)))⟩
  have HD:H2 D = none:=I2.hok.fresh (by rw [eD]; exact Nat.le_refl _)
  have HC:H2 C = none:=I2.hok.fresh (by rw [eD,hC]; exact Nat.le_succ _)
  -- the block's context
  let Y:Cx:=cxComp X scope cl C (x :: fs.map (·.1)) s2 H2 fp
  have lk:∀ y c,cl.lookup y = some c→X.env.cells.lookup y = some c:=fun y c e=>hcl1 (y,c) (lookup_mem e)
  have yok:Y.Ok:=by
    refine ⟨I2.ok.mod,hkind,I2.ok.glob,I2.ok.blt,?_,fun y z c h1 h2=>I2.ok.inj y z c (lk y c h1) (lk z c h2),fun y hy=>?_,fun _ _ h _=>absurd h Bool.false_ne_true,I2.ok.hd,I2.ok.frames,.inl rfl,fun b hb=>?_,I2.bs,?_,fun b o e hb=>?_,fun b hb hz=>?_,I2.stack,I2.stkFree⟩
    · show s2.heap.objs.size ≤ C
      rw [eD,hC]; exact Nat.le_succ _
    · have hy':(relabel scope X.env).names.lookup y = some .cell ∨ (relabel scope X.env).names.lookup y = some .free:=hy
      have hm:(y,NameKind.free) ∈ scope.names:=by
        rcases hy' with e | e
        · rcases relabel_mem (lookup_mem e) with q | ⟨_,q⟩
          · exact absurd rfl (hcell _ q)
          · exact q
        · rcases relabel_mem (lookup_mem e) with q | ⟨q,_⟩
          · exact q
          · cases q
      obtain ⟨c,q⟩:=hcl2 _ hm rfl
      exact mem_lookup q
    · obtain ⟨f0,f1,f3,f4,f5,f6⟩:=f2 b hb
      refine ⟨fun z=>?_,fun y c e=>f5 y c (lk y c e)⟩
      obtain ⟨o,ho,_⟩:=T.obj _ _ st2 b hb
      have z':b = C:=z
      rw [z',hC0] at ho; cases ho
    · exact Nat.le_trans I2.ok.bsz I2.sz
    · obtain ⟨f0,f1,f3,f4,f5,f6⟩:=f2 b hb
      rcases f4 with z | z
      · exact I2.ok.noex b o e z
      · exact absurd (Nat.lt_of_lt_of_le (Heap.lt_size e) (Nat.le_trans I2.ok.bsz z)) (Nat.lt_irrefl _)
    · obtain ⟨f0,f1,f3,f4,f5,f6⟩:=f2 b hb
      rcases List.mem_cons.mp (I2.stkSub b hz) with z | z
      · exact f1 z
      · exact f3 z
  let τ:St:=none :: compSt (fs.map (·.2)) σ
  have hτ:τ.length = (x :: fs.map (·.1)).length:=by simp [τ,compSt]
  obtain ⟨mL,hnL,hlL⟩:=id I2.loc
  have yI:Inv Y [] τ H2 { s2 with heap:=h₁,toks:=s2.toks + ([]:List (Str × Value)).length }:=by
    refine ⟨yok,rfl,I2.bare,Un.kept old,⟨_,hns₁,fun i y v e1 e2 e3=>?_⟩,fun y c e=>?_,HC,fun y c e=>I2.freeC y c (lk y c e),(fun p hp=>nomatch hp),I2.hok.kept old,hτ⟩
    · cases i with
      | zero=>simp [τ] at e2
      | succ i=>
        have e1':(fs.map (·.1))[i]? = some y:=e1
        have e2':(compSt (fs.map (·.2)) σ)[i]? = some (some v):=by simpa [τ] using e2
        rw [List.getElem?_map] at e1'
        cases q:fs[i]? with
        | none=>rw [q] at e1'; cases e1'
        | some f=>
          rw [q] at e1'
          have ey:f.1 = y:=Option.some.inj e1'
          obtain ⟨g1,g2,g3⟩:=hfs f (List.mem_of_getElem? q)
          have e2'':(σ[f.2]?).join = some v:=by
            unfold compSt at e2'
            rw [List.getElem?_map,List.getElem?_map,q] at e2'
            exact Option.some.inj e2'
          have e2c:σ[f.2]? = some (some v):=by
            cases r:σ[f.2]? with
            | none=>rw [r] at e2''; cases e2''
            | some o=>rw [r] at e2''; have e2'':o = some v:=e2''; rw [e2'']
          have vis:Vis X.env.scope f.1:=by
            rcases g2 with g | g
            · exact .inr (.inl g)
            · exact .inr (.inr g)
          obtain ⟨u,ru,lu⟩:=hlL f.2 f.1 v g1 e2c vis
          refine ⟨u,ru,?_⟩
          have lu':∃ c,X.env.cells.lookup f.1 = some c∧s2.heap.IsCell c (some u):=by
            rcases lu with ⟨k,_⟩ | ⟨_,c,e,z⟩
            · rcases g2 with g | g
              · rw [k] at g; cases g
              · rw [k] at g; cases g
            · exact ⟨c,e,z⟩
          obtain ⟨c,hc1,hc2⟩:=lu'
          obtain ⟨c',hm⟩:=hcl2 _ (lookup_mem g3) rfl
          have hm':=hcl1 _ hm
          obtain ⟨c2,hl2⟩:=mem_lookup hm
          have:=lk _ _ hl2
          rw [hc1] at this; cases this
          obtain ⟨oc,ho,hdt⟩:=hc2
          refine .inr ⟨?_,c,by rw [← ey]; exact hl2,oc,old c oc ho,hdt⟩
          rw [← ey]
          exact lookup_relabel_free g3
    · obtain ⟨v,oc,ho,hdt⟩:=I2.cell y c (lk y c e)
      exact ⟨v,oc,old c oc ho,hdt⟩
  have hx':Y.env.scope.names.lookup x = some .local:=lookup_relabel_local hx
  have fpD:∀ b ∈ fp,b ≠ D:=fun b hb z=>by
    obtain ⟨o,ho,_⟩:=T.obj _ _ st2 b hb
    rw [z,hD0] at ho; cases ho
  have stD:D ∉ frs X.stack:=fun hz=>by
    rcases List.mem_cons.mp (I2.stkSub D hz) with z | z
    · have:=I2.lt; rw [eD,← z] at this; exact absurd this (Nat.lt_irrefl _)
    · exact I2.nofs (by rw [eD]; exact Nat.le_refl _) z
  have cellD:∀ y c,cl.lookup y = some c→c ≠ D:=fun y c e z=>by
    obtain ⟨v,oc,ho,_⟩:=I2.cell y c (lk y c e)
    rw [z,hD0] at ho; cases ho
  have stat:∀ {H':Hp} {oD:Obj},(∀ b ∈ fp,H' b = none)→∀ b ∈ fp,FpOk Y [(D,oD)] H' b:=fun hn b hb=>by
    refine ⟨hn b hb,(yok.exf b hb).1,yok.exfs b hb,.inl hb,(yok.exf b hb).2,fun p hp z=>?_⟩
    have hp':p ∈ [(D,_)]:=hp
    rw [List.mem_singleton.mp hp'] at z
    exact fpD b hb z.symm
  obtain ⟨m0,w0⟩:=w0
  have loop:∀ s₃:Shared,s₃ = { s2 with heap:=h₁,toks:=s2.toks + ([]:List (Str × Value)).length }→
      codeAny (model X.prog X.w) X.A (.compLoop (.ListComp elt [⟨.Name x px,iter,ifs,0⟩] scope pos) 0 (.ref it) (.ref D) (compEnvC scope cl C X.env)) (P (.ref D) C) s₃:=by
    rintro s₃ rfl
    refine compLoop_any (fun n s'=>∃ i ys its H',Inv Y [] τ H' s'∧tn i s'.heap∧(∀ b ∈ fp,H' b = none)∧H' D = none∧s'.heap.PlainList D (List.toArray its)∧Vals ys its∧W i n ys H') ?_ m0
      ⟨0,[],[],H2,yI,T.keep _ _ _ st2 (fun b _ o e=>old b o e),fun b hb=>(f2 b hb).1,HD,hacc,.nil,w0⟩
    rintro n s3 ⟨i,ys,its,H3,I3,st3,fr3,hD3,⟨n0,hoD⟩,rv3,w3⟩
    obtain ⟨hz,ht⟩:=turn i n ys H3 w3
    have I3':Inv Y [(D,{ cls:=.type "list",data:=.seq its.toArray n0 })] τ H3 s3:=I3.pins_of fun p hp=>by
      rw [List.mem_singleton.mp hp]
      exact ⟨hoD,hD3,hDC,stD,fun v z=>by cases z⟩
    rcases ht with ⟨stop,q⟩ | ⟨go,hz',step⟩
    · refine thn (T.done Y rfl rfl rfl hc i _ s3 τ H3 _ I3' (stat fr3) st3 stop) fun r s4 ⟨hr,I4⟩=>?_
      subst hr
      obtain ⟨m,hn,_⟩:=I4.loc
      exact hP D C H3 s4 ys its m (by rw [hC]; exact Nat.le_succ _) hD0 hC0 hDC hD3 I4.free hn ⟨n0,(I4.pin (D,_) (List.mem_append_right _ List.mem_cons_self)).1⟩ rv3 hz q I4.base I4.hok I4.bare I4.os
    · refine thn (T.item Y rfl rfl rfl hc i _ s3 τ H3 _ I3' (stat fr3) st3 go) fun r s4 ⟨u,hr,h4⟩=>?_
      subst hr
      refine thn h4 fun _ s5 ⟨x',H5,I5,r5,y5,st5,fr5⟩=>?_
      have I5':=I5.pinned (fp:=fp) (stat fr5) (T.obj _ _ st5)
      refine thn (pg_name (X:=Y) (i:=0) (pos:=px) hnd rfl (.inl hx') (.inr hx') _ s5 τ H5 x' u (fun σ' H'=>σ' = some x' :: compSt (fs.map (·.2)) σ∧H' = H5) I5' r5 ⟨rfl,rfl⟩) fun _ s6 ⟨σ6,H6,I6,e6,e6'⟩=>?_
      subst e6 e6'
      have back:∀ {σ':St} {H':Hp} {s':Shared},Inv Y ([(D,{ cls:=.type "list",data:=.seq its.toArray n0 })] ++ pinsAt fp s5.heap) (some x' :: compSt (fs.map (·.2)) σ) H' s'→
          Inv Y [] τ H' s'∧tn (i + 1) s'.heap∧(∀ b ∈ fp,H' b = none)∧H' D = none∧s'.heap.PlainList D its.toArray:=fun {σ' H' s'} J'=>by
        refine ⟨(J'.pins_of (pins':=[]) (fun p hp=>absurd hp (by simp))).weak rfl fun j v e=>?_,T.keep _ _ _ st5 fun b hb o e=>(J'.pin (b,o) (List.mem_append_right _ (List.mem_append_right _ (mem_pinsAt hb e)))).1,fun b hb=>?_,?_,n0,?_⟩
        · cases j with
          | zero=>cases e
          | succ j=>exact e
        · obtain ⟨o,e,d⟩:=T.obj _ _ st5 b hb
          exact (J'.pin (b,o) (List.mem_append_right _ (List.mem_append_right _ (mem_pinsAt hb e)))).2.1
        · exact (J'.pin (D,_) (List.mem_append_right _ (List.mem_append_left _ List.mem_cons_self))).2.1
        · exact (J'.pin (D,_) (List.mem_append_right _ (List.mem_append_left _ List.mem_cons_self))).1
      refine thn ((hb cl C s2 H2 fp).1 _ s6 _ _ _ I6 (step x' H6 y5)) fun ok s7 ⟨H7,I7,q7⟩=>?_
      cases ok with
      | false=>
        obtain ⟨m',hm,w7⟩:=q7
        obtain ⟨a1,a2,a3,a4,a5⟩:=back (σ':=τ) I7
        exact ⟨m',hm,i + 1,ys,its,H7,a1,a2,a3,a4,a5,rv3,w7⟩
      | true=>
        refine thn ((hb cl C s2 H2 fp).2 _ s7 _ _ _ I7 q7) fun y s8 ⟨yv,H8,I8,ry,m',hm,w8⟩=>?_
        obtain ⟨a1,a2,a3,a4,a5⟩:=back (σ':=τ) I8
        have hlen:=rv3.length
        refine wpAny_list_append_plain (hsz:=by rw [List.size_toArray,← hlen]; exact hz) a5 fun h' hl' hs'=>?_
        refine ⟨m',hm,i + 1,ys ++ [yv],its ++ [y],H8,a1.turned (t':=s8.toks) (it:=D) (fun b o hb e=>hs'.extBut b o hb e) a4 hDC (.inr (by show s2.heap.objs.size ≤ D; rw [eD]; exact Nat.le_refl _)) (fun y c e=>cellD y c e) (fun p hp=>absurd (show p ∈ ([]:List (Addr × Obj)) from hp) (by simp)),T.keep _ _ _ a2 fun b hb o e=>hs'.extBut b o (fpD b hb) e,a3,a4,by simpa using hl',rv3.append (.cons ry .nil),w8⟩
  exact codeAny_compStart_list (loop _ rfl) (T.self X.A 0 _ _ _ (T.keep _ _ _ st2 (fun b _ o e=>old b o e)) (loop _ rfl))
theorem comp_after {pins:List (Addr × Obj)} {σ:St} {H2 H':Hp} {s2 s':Shared} {fp:List Addr} {D C:Addr} {ys:List V} {its:List Value} {h':Heap} {tk:Nat} (I2:Inv X pins σ H2 s2) (f2:∀ b ∈ fp,FpOk X pins H2 b)
    (hD:s2.heap.get? D = none) (hC:s2.heap.get? C = none) (hDC:D ≠ C) (HD:H' D = none) (HC:H' C = none) (pl:s'.heap.PlainList D its.toArray) (rv:Vals ys its) (hz:ys.length ≤ sizeLine)
    (u:Un (frs X.stack) fp H2 H' s2.heap s'.heap) (hok:HOk X.prog X.w H' s'.heap) (hg:AllBare s'.gens) (ho:s'.os = s2.os) (hs:Heap.SameBut C s'.heap h') :
    Inv X pins σ (upd H' D (.lst ys)) { s' with heap:=h',toks:=tk }:=by
  have kC:∀ b o,b ≠ C→s'.heap.get? b = some o→h'.get? b = some o:=fun b o hb e=>hs.extBut b o hb e
  have neC:∀ b o,s2.heap.get? b = some o→b ≠ C:=fun b o e z=>by rw [z,hC] at e; cases e
  have neD:∀ b o,s2.heap.get? b = some o→b ≠ D:=fun b o e z=>by rw [z,hD] at e; cases e
  have trD:∀ b o,H' b = some o→b ≠ D:=fun b o e z=>by rw [z,HD] at e; cases e
  refine I2.call' (ch:=fp) ho ⟨fun b o e n hb hx=>kC b o (neC b o e) (u.keep b o e n hb hx),fun b o e n hb hx=>?_,fun b o e n hx=>?_,fun b o e hx=>?_,fun b xs e=>?_,fun b o w e=>?_,fun b ps e=>?_⟩ (fun b o e=>?_) hg fun b hb=>?_
  · obtain ⟨sl,q⟩:=u.slot b o e n hb hx
    exact ⟨sl,kC b _ (neC b o e) q⟩
  · rw [upd_ne (neD b o e)]; exact u.free b o e n hx
  · obtain ⟨o',q⟩:=u.there b o e hx
    exact ⟨o',kC b _ (neC b o e) q⟩
  · have q:=u.tups b xs e
    rw [upd_ne (trD b _ q)]; exact q
  · have q:=u.frzs b o w e
    rw [upd_ne (trD b _ q)]; exact q
  · obtain ⟨more,q⟩:=u.tbls b ps e
    exact ⟨more,by rw [upd_ne (trD b _ q)]; exact q⟩
  · by_cases hb:b = D
    · subst hb
      rw [upd_same] at e
      cases e
      obtain ⟨n,q⟩:=pl
      exact ⟨hz,its,n,rv,kC b _ hDC q⟩
    · rw [upd_ne hb] at e
      refine (hok b o e).stay (fun c v hc q=>kC c v (fun z=>?_) q) (fun c q=>by rw [upd_ne (trD c _ q)]; exact q) fun c xs q=>by rw [upd_ne (trD c _ q)]; exact q
      rcases hc with hc | hc
      · rw [hc] at z; rw [z,HC] at e; cases e
      · rw [z,HC] at hc; cases hc
  · obtain ⟨f0,f1,f3,f4,f5,f6⟩:=f2 b hb
    exact ⟨f4,f1,f5,f6⟩
theorem pe_comp {elt iter:Expr} {x:Str} {px pos:Pos} {ifs:List Expr} {scope:Scope} (fs:List (Str × Nat)) {wi:TI} {tt:TT} {te:TE}
    (hc:X.calm = true) (hkind:scope.kind = .function) (hcell:∀ y ∈ scope.names,y.2 ≠ .cell) (hnames:∀ y ∈ scope.names,y.2 = .local→scope.names.lookup y.1 = some .local)
    (hfree:∀ y ∈ scope.names,y.2 = .free→X.env.kindOf y.1 = some .cell ∨ X.env.kindOf y.1 = some .free) (hx:scope.names.lookup x = some .local)
    (hnd:(x :: fs.map (·.1)).Nodup) (hfs:∀ f ∈ fs,X.N[f.2]? = some f.1∧(X.env.kindOf f.1 = some .cell ∨ X.env.kindOf f.1 = some .free)∧scope.names.lookup f.1 = some .free)
    (hi:PI X (.Name x px) iter wi)
    (hb:∀ (cl:List (Str × Addr)) (C:Addr) (s₀:Shared) (H₀:Hp) (ex:List Addr),PTs (cxComp X scope cl C (x :: fs.map (·.1)) s₀ H₀ ex) ifs tt∧PE (cxComp X scope cl C (x :: fs.map (·.1)) s₀ H₀ ex) elt te)
    (hs:∀ x,foldedSetIterable iter X.env x = pure x:=by intro _; rfl) :
    PE X (.ListComp elt [⟨.Name x px,iter,ifs,0⟩] scope pos) (tComp wi (fs.map (·.2)) tt te):=by
  intro pins s σ H Q I h
  obtain ⟨cl,hclos,hcl1,hcl2⟩:=closureFor_ex (env:=X.env) (scope:=scope) fun y hy hk=>I.ok.has y.1 (hfree y hy hk)
  rw [eval_ListComp]
  refine wpAny_comprehension_free (use:=none) rfl hs hclos hkind hnames (thn (hi pins s σ H _ I h) fun v s1 h1=>thn h1 fun itv s2 h2=>?_)
  obtain ⟨it,fp,tn,J,H2,e,I2,T,st2,f2,W,w0,turn⟩:=h2
  subst e
  refine comp_block (pins:=pins) hc hkind hcell hx hnd hfs hb hcl1 hcl2 I2 T st2 f2 W (fun H ys=>∀ p,H p = none→Q (.ref p) (upd H p (.lst ys))) w0 turn ?_
  intro D C H' s' ys its m hCs hD hC hDC HD HC hn pl rv hz q u hok hg ho
  exact ⟨m,hn,fun h' hs'=>⟨.ref D,_,comp_after (tk:=s'.toks) I2 f2 hD hC hDC HD HC pl rv hz u hok hg ho hs',rfl,q D HD⟩⟩
def tCompSet (i:Nat) (wi:TI) (fs:List Nat) (tt:TT) (te:TE):TS:=fun D σ H=>tComp wi fs tt te σ H fun v H1=>D.nx (σ.set i (some v)) H1
theorem ps_comp {i:Nat} {y:Str} {py spos:Pos} {elt iter:Expr} {x:Str} {px pos:Pos} {ifs:List Expr} {scope:Scope} (fs:List (Str × Nat)) {wi:TI} {tt:TT} {te:TE}
    (hN:X.N.Nodup) (hy:X.N[i]? = some y) (hyl:X.env.scope.names.lookup y = some .local)
    (hc:X.calm = true) (hkind:scope.kind = .function) (hcell:∀ y ∈ scope.names,y.2 ≠ .cell) (hnames:∀ y ∈ scope.names,y.2 = .local→scope.names.lookup y.1 = some .local)
    (hfree:∀ y ∈ scope.names,y.2 = .free→X.env.kindOf y.1 = some .cell ∨ X.env.kindOf y.1 = some .free) (hx:scope.names.lookup x = some .local)
    (hnd:(x :: fs.map (·.1)).Nodup) (hfs:∀ f ∈ fs,X.N[f.2]? = some f.1∧(X.env.kindOf f.1 = some .cell ∨ X.env.kindOf f.1 = some .free)∧scope.names.lookup f.1 = some .free)
    (hi:PI X (.Name x px) iter wi)
    (hb:∀ (cl:List (Str × Addr)) (C:Addr) (s₀:Shared) (H₀:Hp) (ex:List Addr),PTs (cxComp X scope cl C (x :: fs.map (·.1)) s₀ H₀ ex) ifs tt∧PE (cxComp X scope cl C (x :: fs.map (·.1)) s₀ H₀ ex) elt te)
    (hsw:swapsWith (.ListComp elt [⟨.Name x px,iter,ifs,0⟩] scope pos) (some (.Name y py)) spos.line X.env = pure true)
    (hs:∀ x,foldedSetIterable iter X.env x = pure x:=by intro _; rfl) :
    PS X (.Assign [.Name y py] (.ListComp elt [⟨.Name x px,iter,ifs,0⟩] scope pos) spos) (tCompSet i wi (fs.map (·.2)) tt te):=by
  intro pins s σ H D' I h
  obtain ⟨cl,hclos,hcl1,hcl2⟩:=closureFor_ex (env:=X.env) (scope:=scope) fun y hy hk=>I.ok.has y.1 (hfree y hy hk)
  rw [exec_Assign_Name_used _ _ _ _ hsw]
  refine wpAny_bind (wpAny_standAt (wpAny_bind ?_))
  show wpAny _ X.A (do let _ ← comprehension (.ListComp elt [⟨.Name x px,iter,ifs,0⟩] scope pos) scope X.env _ (newList []) false (eval iter X.env) (some (assign (.Name y py) X.env))) _ _ s
  refine wpAny_bind (wpAny_mono (wpAny_comprehension_free (use:=some (assign (.Name y py) X.env)) (Q:=fun _ s'=>SP X pins D' .next s') rfl hs hclos hkind hnames
    (thn (hi pins s σ H _ I h) fun v s1 h1=>thn h1 fun itv s2 h2=>?_)) (fun _ s' hq=>wpAny_pure (wpAny_pure hq)) fun _ _ e=>e)
  obtain ⟨it,fp,tn,J,H2,e,I2,T,st2,f2,W,w0,turn⟩:=h2
  subst e
  refine comp_block (pins:=pins) hc hkind hcell hx hnd hfs hb hcl1 hcl2 I2 T st2 f2 W (fun H ys=>∀ p,H p = none→D'.nx (σ.set i (some (.ref p))) (upd H p (.lst ys))) w0 turn ?_
  intro D C H' s' ys its m hCs hD hC hDC HD HC hn pl rv hz q u hok hg ho
  show wpAny _ X.A (assign (.Name y py) X.env (.ref D)) _ _ _
  -- store,with the block's frame still there
  have J:=comp_after (tk:=s'.toks) I2 f2 hD hC hDC HD HC pl rv hz u hok hg ho (Heap.SameBut.refl C s'.heap)
  refine wpAny_assign_Name (store_ok2 J hN hy (.inl hyl) (v:=.ref D) (u:=.ref D) rfl (fun s3 J3 ⟨a,sb,ha⟩=>?_) (.inr hyl))
  have exL:∃ o,s2.heap.get? X.env.locals = some o:=let ⟨_,⟨o,_,_,e,_⟩,_⟩:=I2.loc; ⟨o,e⟩
  have cellC:∀ z c,X.env.cells.lookup z = some c→c ≠ C:=fun z c e q=>by
    obtain ⟨v,oc,ho,_⟩:=I2.cell z c e
    rw [q,hC] at ho; cases ho
  have aC:a ≠ C:=by
    rcases ha with z | z
    · obtain ⟨o,e⟩:=exL
      intro q
      rw [← z,q,hC] at e; cases e
    · exact cellC y a z
  have LC:C ≠ X.env.locals:=fun q=>by
    obtain ⟨o,e⟩:=exL
    rw [← q,hC] at e; cases e
  refine ⟨m,hn.sameBut sb (Ne.symm aC),fun h' hs'=>?_⟩
  exact ⟨_,_,J3.turned (t':=s3.toks) (it:=C) (fun b o hb e=>hs'.extBut b o hb e) (by rw [upd_ne (Ne.symm hDC)]; exact HC) LC (.inr (Nat.le_trans I2.sz hCs)) cellC (fun p hp z=>by
    have:=(I2.pin p hp).1
    rw [z,hC] at this; cases this),q D HD⟩
end
end L2
namespace L2
open PySem PySem.Spec PyProof.Rows PySem.Builtin.Str
def txt (l:List Nat):Str:=⟨l.toArray⟩
theorem txt_codes (x:Str):txt x.cps.toList = x:=by cases x; simp [txt]
theorem codes_txt (l:List Nat):(txt l).cps.toList = l:=by simp [txt]
theorem txt_len (l:List Nat):(txt l).length = l.length:=by simp [txt,Str.length]
theorem txt_inj {a b:List Nat}:txt a = txt b ↔ a = b:=⟨fun h=>by simpa [txt] using h,fun h=>by rw [h]⟩
theorem txt_app (a b:List Nat):txt a ++ txt b = txt (a ++ b):=by
  show Str.mk (a.toArray ++ b.toArray) = _
  simp [txt]
def cutL (xs:List Nat) (lo hi:Option Int):List Nat:=(xs.drop (HT.sIx xs.length 0 lo)).take (HT.sIx xs.length xs.length hi - HT.sIx xs.length 0 lo)
theorem clip_str (v:Option Int) (n d:Nat):(match v with | none=>((d:Nat):Int) | some i=>(if (1:Int) > 0 then max 0 (min (if i < 0 then i + (n:Int) else i) (n:Int)) else max (-1) (min (if i < 0 then i + (n:Int) else i) ((n:Int) - 1)))) = ((HT.sIx n d v:Nat):Int):=by
  cases v with
  | none=>rfl
  | some i=>
    show (if (1:Int) > 0 then max 0 (min (if i < 0 then i + (n:Int) else i) (n:Int)) else _) = (((if i < 0 then (i + (n:Int)).toNat else min i.toNat n):Nat):Int)
    rw [if_pos (by decide)]
    by_cases h:i < 0
    · rw [if_pos h,if_pos h]; omega
    · rw [if_neg h,if_neg h]; omega
theorem sIx_le (n d:Nat) (v:Option Int) (h:d ≤ n):HT.sIx n d v ≤ n:=by
  cases v with
  | none=>exact h
  | some i=>
    show (if i < 0 then (i + (n:Int)).toNat else min i.toNat n) ≤ n
    split <;> omega
theorem slice_txt (l:List Nat) (lo hi:Option Int):Txt.slice (txt l) lo hi = txt (cutL l lo hi):=by
  have e:strSliceIndices lo hi 1 (txt l).length = (List.range (HT.sIx l.length l.length hi - HT.sIx l.length 0 lo)).map (HT.sIx l.length 0 lo + ·):=by
    rw [txt_len]
    unfold strSliceIndices
    simp only [if_pos (show (1:Int) > 0 by decide)]
    have e1:=clip_str lo l.length 0
    have e2:=clip_str hi l.length l.length
    simp only [if_pos (show (1:Int) > 0 by decide)] at e1 e2
    have e1':((0:Nat):Int) = 0:=rfl
    rw [e1'] at e1
    have key:∀ a b a' b':Int,a = a'→b = b'→sliceRange a b 1 = sliceRange a' b' 1:=fun a b a' b' h1 h2=>by rw [h1,h2]
    exact Eq.trans (key _ _ _ _ e1 e2) (sliceRange_one _ _)
  unfold Txt.slice
  rw [e]
  have e3:(((List.range (HT.sIx l.length l.length hi - HT.sIx l.length 0 lo)).map (HT.sIx l.length 0 lo + ·)).filterMap ((txt l).cps[·]?)) = cutL l lo hi:=by
    rw [pick_run,codes_txt]; rfl
  rw [e3]
  split
  · rename_i hc
    have hc':HT.sIx l.length l.length hi - HT.sIx l.length 0 lo = l.length:=by
      rw [txt_len] at hc
      simpa using hc
    have h1:=sIx_le l.length l.length hi (Nat.le_refl _)
    have h0:HT.sIx l.length 0 lo = 0 ∨ l.length = 0:=by omega
    unfold cutL
    rw [hc']
    rcases h0 with h0 | h0
    · rw [h0]; simp
    · have:l = []:=List.length_eq_zero_iff.mp h0
      subst this; simp
  · rfl
section
variable {X:Cx}
def rSlS:V→Option Int→Option Int→Hp→VK→Prop:=fun x lo hi H Q=>∃ l,x = .str (txt l)∧l.length ≤ sizeLine∧Q (.str (txt (cutL l lo hi))) H
theorem isSlice_of {h:Heap} {sl:Addr} {vl vu:Value} {lo hi:Option Int} (hs:h.IsSliceOf sl vl vu .none) (pl:IsPart vl lo) (pu:IsPart vu hi) :
    ∃ (l u:Option (Int × Tok)),h.IsSlice sl l u none∧l.map (·.1) = lo∧u.map (·.1) = hi:=by
  obtain ⟨o,ho,hc,hd⟩:=hs
  cases pl with
  | none=>
    cases pu with
    | none=>exact ⟨none,none,⟨o,ho,hc,hd⟩,rfl,rfl⟩
    | int j u=>exact ⟨none,some (j,u),⟨o,ho,hc,hd⟩,rfl,rfl⟩
  | int i t=>
    cases pu with
    | none=>exact ⟨some (i,t),none,⟨o,ho,hc,hd⟩,rfl,rfl⟩
    | int j u=>exact ⟨some (i,t),some (j,u),⟨o,ho,hc,hd⟩,rfl,rfl⟩
theorem sl_str:SlR X rSlS:=by
  intro pins s σ H x v vl vu lo hi sl Q I rx hs pl pu h
  obtain ⟨l,rfl,hz,q⟩:=h
  obtain ⟨t,rfl⟩:=rx
  obtain ⟨l',u',hS,rfl,rfl⟩:=isSlice_of hs pl pu
  refine ⟨"str",_,F.slot_str_getitem.lookup,typeIs_str _ _ _,wpAny_getItem_str_slice hS rfl ?_⟩
  have key:∀ t' k,EP X pins σ Q (.str (Txt.slice (txt l) (l'.map (·.1)) (u'.map (·.1))) t') { s with toks:=k }:=fun t' k=>⟨.str (txt (cutL l _ _)),H,I.tok _,⟨t',by rw [slice_txt]⟩,q⟩
  have e:sliceMade (txt l) t l' u' none = (if ((1:Int) == 1 && (strSliceIndices (l'.map (·.1)) (u'.map (·.1)) 1 (txt l).length).length == (txt l).length) = true then Made.val (.str (txt l) t) else Made.str ⟨((strSliceIndices (l'.map (·.1)) (u'.map (·.1)) 1 (txt l).length).filterMap ((txt l).cps[·]?)).toArray⟩):=rfl
  rw [e]
  exact post_val_or_str ⟨Nat.le_trans (Txt.slice_le _ _ _) (by rw [txt_len]; exact hz),key⟩
def rstripL (p:Nat→Bool) (l:List Nat):List Nat:=(l.reverse.dropWhile p).reverse
theorem rstrip_eq (p:Nat→Bool) (l:List Nat):Txt.stripBy p false true (txt l) = txt (rstripL p l):=by
  have hlen:(l.reverse.takeWhile p).length + (l.reverse.dropWhile p).length = l.length:=by
    have:=congrArg List.length (List.takeWhile_append_dropWhile (p:=p) (l:=l.reverse))
    rw [List.length_append,List.length_reverse] at this
    exact this
  have hpre:l.take (l.length - (l.reverse.takeWhile p).length) = rstripL p l:=by
    have e:l = rstripL p l ++ (l.reverse.takeWhile p).reverse:=by
      have:=congrArg List.reverse (List.takeWhile_append_dropWhile (p:=p) (l:=l.reverse))
      rw [List.reverse_append,List.reverse_reverse] at this
      exact this.symm
    have hl:(rstripL p l).length = l.length - (l.reverse.takeWhile p).length:=by unfold rstripL; rw [List.length_reverse]; omega
    have h:=List.take_left (l₁:=rstripL p l) (l₂:=(l.reverse.takeWhile p).reverse)
    rw [← e,hl] at h
    exact h
  unfold Txt.stripBy stripSame stripped stripLo stripHi
  simp only [Bool.false_eq_true,if_false,if_true,codes_txt,List.drop_zero,txt_len]
  have e2:strSub (txt l) 0 (l.length - (l.reverse.takeWhile p).length) = txt (rstripL p l):=by
    rw [← hpre]
    simp [strSub,txt,List.extract_eq_take_drop]
  split
  · rename_i hc
    have hc':l.length - (l.reverse.takeWhile p).length = l.length:=by simpa using hc
    rw [← hpre,hc',List.take_length]
  · exact e2
def rRstrip:V→List V→Hp→VK→Prop:=fun x vs H Q=>∃ l m,x = .str (txt l)∧vs = [.str (txt m)]∧l.length ≤ sizeLine∧Q (.str (txt (rstripL (fun c=>m.contains c) l))) H
theorem mt_rstrip:MtR X "str.rstrip" rRstrip:=by
  intro pins s σ H x vs v us Q I rx rv h
  obtain ⟨l,m,rfl,rfl,hz,q⟩:=h
  obtain ⟨t,rfl⟩:=rx
  obtain ⟨u,rfl,t',rfl⟩:=rv.one
  refine call_gives F.slot_str_rstrip (typeIs_str _ _ _) F.entry_str_rstrip (F.args_str_rstrip_2 _ _) (gives_str_rstrip_chars _ _ t t') ?_
  refine post_val_or_made (fun _=>fits_stripped _ _ _ (by rw [txt_len]; exact hz)) fun t' k=>⟨.str (txt (rstripL (fun c=>m.contains c) l)),H,I.tok _,⟨t',?_⟩,q⟩
  have e:(txt m).cps.contains = fun c=>m.contains c:=by funext c; simp [txt]
  show Value.str (Txt.stripBy (txt m).cps.contains false true (txt l)) t' = _
  rw [e,rstrip_eq]
theorem occ_one {l:List Nat} {c:Nat} (h:c ∈ l):∃ rest,occurrences (txt l) (txt [c]) 0 (txt l).length 1 = l.idxOf c :: rest:=by
  have hf:=PyProof.Rows.find_whole (txt l) (txt [c])
  have hlt:=List.idxOf_lt_length_iff.mpr h
  have at_:∀ i,StrLaws.At (txt l) (txt [c]) (txt l).length i ↔ l[i]? = some c:=fun i=>by
    unfold StrLaws.At subAt
    rw [txt_len,txt_len]
    simp only [txt,List.extract_toArray,List.extract_eq_take_drop,List.length_cons,List.length_nil]
    rw [List.getElem?_eq_some_iff]
    constructor
    · rintro ⟨h1,h2⟩
      have h3:i < l.length:=by omega
      refine ⟨h3,?_⟩
      have h4:(l.drop i).take 1 = [c]:=by simpa using h2
      rw [List.drop_eq_getElem_cons h3] at h4
      have h5:[l[i]] = [c]:=h4
      injection h5
    · rintro ⟨h1,h2⟩
      refine ⟨by omega,?_⟩
      have h4:(l.drop i).take (i + (0 + 1) - i) = [c]:=by
        rw [List.drop_eq_getElem_cons h1,h2]
        have:i + (0 + 1) - i = 1:=by omega
        rw [this]; rfl
      rw [h4]; simp
  have hi:l[l.idxOf c]? = some c:=by rw [List.getElem?_eq_getElem hlt]; congr 1; exact List.getElem_idxOf hlt
  rcases hf with ⟨_,hn⟩ | ⟨i,e,ha,hb⟩
  · exact absurd ((at_ _).mpr hi) (hn _)
  · have hi2:=(at_ i).mp ha
    have ei:i = l.idxOf c:=by
      have h1:¬ l.idxOf c < i:=fun z=>hb _ z ((at_ _).mpr hi)
      have h2:l.idxOf c ≤ i:=by
        obtain ⟨h3,h4⟩:=List.getElem?_eq_some_iff.mp hi2
        have:=List.idxOf_lt_length_iff.mpr h
        rcases Nat.lt_or_ge i (l.idxOf c) with z | z
        · exfalso
          have:=List.not_of_lt_findIdx (p:=(· == c)) (xs:=l) (i:=i) (by simpa [List.idxOf] using z)
          simp [h4] at this
        · exact z
      omega
    unfold Txt.find at e
    cases ho:occurrences (txt l) (txt [c]) 0 (txt l).length 1 with
    | nil=>rw [ho] at e; simp only at e; omega
    | cons a r=>
      rw [ho] at e
      have ea:(a:Int) = (i:Int):=e
      have ea':a = i:=by omega
      exact ⟨r,by rw [ea',ei]⟩
def rIndex:V→List V→Hp→VK→Prop:=fun x vs H Q=>∃ l c,x = .str (txt l)∧vs = [.str (txt [c])]∧c ∈ l∧Q (.int (l.idxOf c:Nat)) H
theorem mt_index:MtR X "str.index" rIndex:=by
  intro pins s σ H x vs v us Q I rx rv h
  obtain ⟨l,c,rfl,rfl,hm,q⟩:=h
  obtain ⟨t,rfl⟩:=rx
  obtain ⟨u,rfl,t',rfl⟩:=rv.one
  obtain ⟨rest,ho⟩:=occ_one hm
  exact call_gives F.slot_str_index (typeIs_str _ _ _) F.entry_str_index (F.args_str_index_2 _ _) (gives_str_index _ _ t t' _ rest ho) ⟨.int _,H,I.tok _,⟨_,rfl⟩,q⟩
theorem op_ltS:OpR X (compareOp .Lt) (fun x y H Q=>∃ i j,x = .str (txt i)∧y = .str (txt j)∧Q (.bl (decide (i < j))) H):=by
  intro pins s σ H x y v u Q I rx ry h
  obtain ⟨i,j,rfl,rfl,q⟩:=h
  obtain ⟨t,rfl⟩:=rx
  obtain ⟨t',rfl⟩:=ry
  exact lt_str (fin_bl I q (by rw [codes_txt,codes_txt]))
theorem op_gtS:OpR X (compareOp .Gt) (fun x y H Q=>∃ i j,x = .str (txt i)∧y = .str (txt j)∧Q (.bl (decide (j < i))) H):=by
  intro pins s σ H x y v u Q I rx ry h
  obtain ⟨i,j,rfl,rfl,q⟩:=h
  obtain ⟨t,rfl⟩:=rx
  obtain ⟨t',rfl⟩:=ry
  exact PySem.P.gt_str (fin_bl I q (by rw [codes_txt,codes_txt]))
theorem op_geS:OpR X (compareOp .GtE) (fun x y H Q=>∃ i j,x = .str (txt i)∧y = .str (txt j)∧Q (.bl (!decide (i < j))) H):=by
  intro pins s σ H x y v u Q I rx ry h
  obtain ⟨i,j,rfl,rfl,q⟩:=h
  obtain ⟨t,rfl⟩:=rx
  obtain ⟨t',rfl⟩:=ry
  exact PySem.P.ge_str (fin_bl I q (by rw [codes_txt,codes_txt]))
theorem op_addS:OpR X (binaryOp .Add) (fun x y H Q=>∃ i j,x = .str (txt i)∧y = .str (txt j)∧i.length + j.length ≤ sizeLine∧Q (.str (txt (i ++ j))) H):=by
  intro pins s σ H x y v u Q I rx ry h
  obtain ⟨i,j,rfl,rfl,hz,q⟩:=h
  exact op_add_str pins s σ H _ _ v u Q I rx ry ⟨_,_,rfl,rfl,by rw [txt_len,txt_len]; exact hz,by rw [txt_app]; exact q⟩
theorem ix_strL:IxR X (fun x y H Q=>∃ (l:List Nat) (i:Nat) (c:Nat),x = .str (txt l)∧y = .int i∧l.length ≤ sizeLine∧l[i]? = some c∧Q (.str (txt [c])) H):=by
  intro pins s σ H value slice x y v u Q I rx ry h hs
  obtain ⟨l,i,c,rfl,rfl,hz,e,q⟩:=h
  exact ix_str pins s σ H value slice _ _ v u Q I rx ry ⟨_,_,c,rfl,rfl,by rw [txt_len]; exact hz,by rw [codes_txt]; exact atI_nat e,q⟩ hs
theorem call_lenS:CallR X (.builtin "len") (fun xs H Q=>∃ z,xs = [.str (txt z)]∧z.length ≤ sizeLine∧Q (.int z.length) H):=by
  intro pins s σ H xs us Q I r h
  obtain ⟨z,rfl,hz,q⟩:=h
  exact call_len_str pins s σ H _ us Q I r ⟨_,rfl,by rw [txt_len]; exact hz,by rw [txt_len]; exact q⟩
end
end L2
namespace L2
open PySem PySem.Spec PyProof.Rows PySem.Builtin.Str
def joinL (sep:List Nat):List (List Nat)→List Nat
  | []=>[]
  | y :: r=>r.foldl (fun acc p=>acc ++ sep ++ p) y
theorem foldl_cps (sep:List Nat):∀ (r:List (List Nat)) (y:List Nat),((r.map txt).foldl (fun acc p=>acc ++ (txt sep).cps ++ p.cps) y.toArray) = (r.foldl (fun acc p=>acc ++ sep ++ p) y).toArray
  | [],y=>rfl
  | a :: r,y=>by
    rw [List.map_cons,List.foldl_cons,List.foldl_cons,← foldl_cps sep r (y ++ sep ++ a)]
    congr 1
    simp [txt]
theorem join_txt (sep:List Nat) (ys:List (List Nat)):Txt.join (txt sep) (ys.map txt) = txt (joinL sep ys):=by
  cases ys with
  | nil=>rfl
  | cons y r=>
    show (⟨_⟩:Str) = _
    have:=foldl_cps sep r y
    show (⟨(((y :: r).map txt).drop 1).foldl (fun acc p=>acc ++ (txt sep).cps ++ p.cps) (((y :: r).map txt).headD Str.empty).cps⟩:Str) = _
    simp only [List.map_cons,List.drop_one,List.tail_cons,List.headD_cons]
    have e:(txt y).cps = y.toArray:=rfl
    rw [e,this]; rfl
theorem foldl_nilsep:∀ (r:List (List Nat)) (y:List Nat),r.foldl (fun acc p=>acc ++ [] ++ p) y = y ++ r.flatten
  | [],y=>by simp
  | a :: r,y=>by rw [List.foldl_cons,foldl_nilsep r]; simp
theorem joinL_nil (ys:List (List Nat)):joinL [] ys = ys.flatten:=by
  cases ys with
  | nil=>rfl
  | cons y r=>show r.foldl (fun acc p=>acc ++ [] ++ p) y = _; rw [foldl_nilsep]; rfl
theorem strsAre_of:∀ {ys:List Str} {us:List Value},Vals (ys.map V.str) us→StrsAre us ys
  | [],_,.nil=>.nil
  | y :: ys,_,.cons ⟨t,e⟩ r=>by subst e; exact .cons y t (strsAre_of r)
theorem vals_strs:∀ {us:List Value} {ys:List Str},StrsAre us ys→Vals (ys.map V.str) us
  | _,_,.nil=>.nil
  | _,_,.cons y t r=>.cons ⟨t,rfl⟩ (vals_strs r)
def strV (l:List Nat):V:=.str (txt l)
theorem map_strV (ys:List (List Nat)):ys.map strV = (ys.map txt).map V.str:=by rw [List.map_map]; rfl
section
variable {X:Cx}
def rJoin (K:PySem.W.Frag):V→List V→Hp→VK→Prop:=fun x vs H Q=>∃ sep p ys,x = .str (txt sep)∧vs = [.ref p]∧SqL K H p (ys.map strV)∧(ys.map (·.length)).sum + ys.length * sep.length ≤ 16777216∧Q (.str (txt (joinL sep ys))) H
theorem mt_join:MtR X "str.join" (rJoin X.K):=by
  intro pins s σ H x vs v us Q I rx rv h
  obtain ⟨sep,p,ys,rfl,rfl,hx,hz,q⟩:=h
  obtain ⟨t,rfl⟩:=rx
  obtain ⟨u,rfl,ru⟩:=rv.one
  cases ru
  obtain ⟨its,r,pl,hl⟩:=I.list hx
  rw [map_strV] at r
  refine join_list pl.isList (ys:=ys.map txt) (by simpa using strsAre_of r) ?_ fun t' k=>⟨.str (txt (joinL sep ys)),H,I.tok _,⟨t',by rw [join_txt]⟩,q⟩
  rw [List.map_map,List.length_map,txt_len]
  have:((fun x=>x.length) ∘ txt:List Nat→Nat) = fun l=>l.length:=by funext l; exact txt_len l
  rw [this]; exact hz
def Its (l:List Nat):It:=⟨fun i _=>i < l.length,fun i H x H'=>H' = H∧∃ c,l[i]? = some c∧x = .str (txt [c]),fun i _=>l.length ≤ i⟩
theorem strTy (x:Str):strIterType x = "str_ascii_iterator" ∨ strIterType x = "str_iterator":=by
  unfold strIterType
  split
  · exact .inl rfl
  · exact .inr rfl
theorem walks_str {prog:Program} {w:World} {A:Around} (hh:A.handled = none) (I:Addr) (x:Str) (t:Tok):Walks prog w A I [I] [I] x.cps.size (SignAt x) (fun i h=>h.IsStrIter I (strIterType x) x t i):=by
  rcases strTy x with e | e
  · rw [e]; exact Walks.strAscii hh I x t
  · rw [e]; exact Walks.strWide hh I x t
theorem turn_str {P:Program} {w:World} {K:PySem.W.Frag} {tg:Expr} (it:Addr) (l:List Nat) (t:Tok):Turn P w K tg (Its l) [it] it (fun i h=>h.IsStrIter it (strIterType (txt l)) (txt l) t i) where
  mem:=by simp
  obj:=fun i h st b hb=>by
    have e:b = it:=by simpa using hb
    subst e
    obtain ⟨o,e,c,d⟩:=st
    exact ⟨o,e,fun v z=>by rw [d] at z; cases z⟩
  keep:=fun i h h' st k=>let ⟨o,ho,r⟩:=st; ⟨o,k it (by simp) o ho,r⟩
  item:=by
    intro X hP hw hK hc i pins s σ H E I hf st hg
    subst hP hw hK
    obtain ⟨f0,f1,f2,f3,f4,f5⟩:=hf it (by simp)
    have W:=walks_str (prog:=X.prog) (w:=X.w) (I.ok.hd hc) it (txt l) t
    have hg':i < (txt l).cps.size:=by have:i < l.length:=hg; simpa [txt] using this
    refine W.item i s _ _ hg' st fun v h' tk hv st' kk=>?_
    obtain ⟨c,u,hc',rfl⟩:=hv
    have I1:Inv X pins σ H { s with heap:=h',toks:=tk }:=I.turned (fun b o hb e=>kk b o (by simpa using hb) e) f0 f1 f3 f4 f5
    obtain ⟨o,e,cc,d⟩:=id st'
    have hn : ["enumerate", "zip", "dict_itemiterator", "dict_reverseitemiterator", "odict_iterator", "itertools.zip_longest", "itertools.pairwise"].contains (strIterType (txt l)) = false := by
      rcases strTy (txt l) with e | e <;> (rw [e]; decide)
    exact ⟨_,rfl,go_of (s:={ s with heap:=h',toks:=tk }) e cc d hn ⟨.str (txt [c]),H,I1,⟨u,rfl⟩,⟨rfl,c,by simpa [txt] using hc',rfl⟩,st',fun b hb=>(hf b hb).1⟩⟩
  done:=by
    intro X hP hw hK hc i pins s σ H E I hf st hg
    subst hP hw hK
    obtain ⟨f0,f1,f2,f3,f4,f5⟩:=hf it (by simp)
    have hg':l.length ≤ i:=hg
    obtain ⟨o,e,cc,d⟩:=id st
    have fin:∀ h',Heap.ExtBut it s.heap h'→(none:Option Value) = none∧Inv X pins σ H { s with heap:=h' }:=fun h' eb=>⟨rfl,I.turned (t':=s.toks) (fun b o hb e=>eb b o hb e) f0 f1 f3 f4 f5⟩
    have hx:(txt l).cps[i]? = none:=by simpa [txt] using hg'
    rcases strTy (txt l) with e | e
    · rw [e] at st
      exact wpAny_pyNext_ascii_end (I.ok.hd hc) st hx fin
    · rw [e] at st
      exact wpAny_pyNext_wide_end (I.ok.hd hc) st hx fin
  self:=fun _ _ _ _ _ st h=>by
    rcases strTy (txt l) with e | e
    · rw [e] at st; exact wpAny_pyIter_striter_ascii st h
    · rw [e] at st; exact wpAny_pyIter_striter_wide st h
def iStr (tl:TE):TI:=fun σ H R=>tl σ H fun x H1=>∃ l,x = .str (txt l)∧R (Its l) H1
theorem pi_str {tg l:Expr} {tl:TE} (hl:PE X l tl):PI X tg l (iStr tl):=by
  intro pins s σ H R I h
  refine thn (hl pins s σ H _ I h) fun v s1 ⟨x,H1,I1,r1,q1⟩=>?_
  obtain ⟨l',e,q⟩:=q1
  subst e
  obtain ⟨t,rfl⟩:=r1
  refine wpAny_pyIter_strU ?_
  refine ⟨s1.heap.objs.size,[s1.heap.objs.size],_,_,H1,rfl,I1.kept (t':=s1.toks) fun b o e=>Heap.get?_push_of_some _ e,turn_str _ l' t,⟨_,Heap.get?_push_size _ rfl,rfl,rfl⟩,fun b hb=>?_,q⟩
  have e:b = s1.heap.objs.size:=by simpa using hb
  subst e
  exact I1.fpOk (Nat.le_refl _) (I1.hok.fresh (Nat.le_refl _))
theorem ltCps_txt (a b:List Nat):ltCps a b = decide (a < b):=by
  first | exact ltCps_eq a b | (rw [ltCps_eq])
theorem rising_pw:∀ (r:List (List Nat)) (p:List Nat),risingS (txt p) (r.map txt) = true→(p :: r).Pairwise (· ≤ ·)
  | [],p,_=>List.pairwise_singleton _ _
  | x :: r,p,h=>by
    rw [List.map_cons] at h
    unfold risingS at h
    rw [Bool.and_eq_true,codes_txt,codes_txt,ltCps_txt] at h
    have h1:p ≤ x:=by
      have:=h.1
      simp only [Bool.not_eq_true',decide_eq_false_iff_not] at this
      exact List.not_lt.mp this
    have ih:=rising_pw r x h.2
    refine List.pairwise_cons.mpr ⟨fun y hy=>?_,ih⟩
    rcases List.mem_cons.mp hy with e | hy
    · rw [e]; exact h1
    · exact List.le_trans h1 ((List.pairwise_cons.mp ih).1 y hy)
theorem sortedS_pw (l:List (List Nat)) (h:sortedS (l.map txt) = true):l.Pairwise (· ≤ ·):=by
  cases l with
  | nil=>exact .nil
  | cons x r=>exact rising_pw r x h
theorem call_sortedS:CallR X (.builtin "sorted") (fun xs H Q=>∃ p,∃ ys:List (List Nat),xs = [.ref p]∧SqL X.K H p (ys.map strV)∧ys.length < 64∧∀ l,∀ zs:List (List Nat),H l = none→zs.Perm ys→zs.Pairwise (· ≤ ·)→Q (.ref l) (upd H l (.lst (zs.map strV)))):=by
  intro pins s σ H xs us Q I r h
  obtain ⟨p,ys,rfl,hx,hz,q⟩:=h
  obtain ⟨u,rfl,ru⟩:=vals1 r
  cases ru
  obtain ⟨its,rv,pl,hl⟩:=I.list hx
  have hlen:=rv.length
  rw [map_strV] at rv
  refine sorted_strs pl.isList (strsAre_of rv) (by rw [← hlen,List.length_map]; exact hz) fun out ss' a1 a2 a3=>?_
  obtain ⟨e,he⟩:=sortedAll_at s.heap its out
  have ez:ss' = (ss'.map fun x=>x.cps.toList).map txt:=by
    rw [List.map_map]
    have:(txt ∘ fun (x:Str)=>x.cps.toList) = id:=by funext x; exact txt_codes x
    rw [this,List.map_id]
  have hp:(ss'.map fun x=>x.cps.toList).Perm ys:=by
    have:=a2.map (fun x:Str=>x.cps.toList)
    rw [List.map_map] at this
    have e2:((fun x:Str=>x.cps.toList) ∘ txt) = id:=by funext l; exact codes_txt l
    rw [e2,List.map_id] at this
    exact this
  rw [ez] at a3
  have hv:Vals ((ss'.map fun x=>x.cps.toList).map strV) out.toList:=by rw [map_strV,← ez]; exact vals_strs a1
  refine ⟨.ref (s.heap.objs.size + 1),_,I.laid (t':=s.toks) (a:=s.heap.objs.size + 1) (o:=.lst ((ss'.map fun x=>x.cps.toList).map strV)) (fun b o q=>sortedAll_old q) (Nat.le_succ _) ⟨?_,out.toList,e,hv,by simpa [seqObj] using he⟩,rfl,q _ _ (I.hok.fresh (Nat.le_succ _)) hp (sortedS_pw _ a3)⟩
  have h64:=hp.length_eq
  rw [List.length_map,h64,sizeLine_eq]
  omega
theorem canLay_strs:∀ ys:List Str,(∀ y ∈ ys,PyData.strOk y = true)→PyData.canLayAll0 (ys.map PyData.str) = true
  | [],_=>rfl
  | y :: r,h=>by simp [PyData.canLayAll0,PyData.canLay0,h y List.mem_cons_self,canLay_strs r fun z hz=>h z (List.mem_cons_of_mem _ hz)]
theorem depth_strs:∀ ys:List Str,PyData.depthAll (ys.map PyData.str) = 0
  | []=>rfl
  | _ :: r=>by simp [PyData.depthAll,PyData.depth,depth_strs r]
end
end L2
namespace L2
open PySem PySem.Spec PyProof.Rows PySem.Builtin.Str
section
variable {X:Cx}
structure CompOk (X:Cx) (scope:Scope) (x:Str) (fs:List (Str × Nat)):Prop where
  kind:scope.kind = .function
  cell:∀ y ∈ scope.names,y.2 ≠ .cell
  names:∀ y ∈ scope.names,y.2 = .local→scope.names.lookup y.1 = some .local
  free:∀ y ∈ scope.names,y.2 = .free→X.env.kindOf y.1 = some .cell ∨ X.env.kindOf y.1 = some .free
  hx:scope.names.lookup x = some .local
  nd:(x :: fs.map (·.1)).Nodup
  fs:∀ f ∈ fs,X.N[f.2]? = some f.1∧(X.env.kindOf f.1 = some .cell ∨ X.env.kindOf f.1 = some .free)∧scope.names.lookup f.1 = some .free
def compLook (names:List (Str × NameKind)) (outer:List (Str × NameKind)) (N:List Str) (x:Str) (fs:List (Str × Nat)):Bool:=
  (names.all fun y=>y.2 != .cell) && (names.all fun y=>y.2 != .local || names.lookup y.1 == some .local) &&
  (names.all fun y=>y.2 != .free || outer.lookup y.1 == some .cell || outer.lookup y.1 == some .free) && (names.lookup x == some .local) &&
  decide ((x :: fs.map (·.1)).Nodup) && (fs.all fun f=>decide (N[f.2]? = some f.1) && (outer.lookup f.1 == some .cell || outer.lookup f.1 == some .free) && names.lookup f.1 == some .free)
theorem compOk_of {scope:Scope} {x:Str} {fs:List (Str × Nat)} (hk:scope.kind = .function) (h:compLook scope.names X.env.scope.names X.N x fs = true):CompOk X scope x fs:=by
  unfold compLook at h
  simp only [Bool.and_eq_true,List.all_eq_true,decide_eq_true_eq,Bool.or_eq_true,bne_iff_ne,beq_iff_eq] at h
  obtain ⟨⟨⟨⟨⟨h1,h2⟩,h3⟩,h4⟩,h5⟩,h6⟩:=h
  refine ⟨hk,fun y hy=>h1 y hy,fun y hy e=>?_,fun y hy e=>?_,h4,h5,fun f hf=>?_⟩
  · rcases h2 y hy with z | z
    · exact absurd e z
    · exact z
  · rcases h3 y hy with (z | z) | z
    · exact absurd e z
    · exact .inl z
    · exact .inr z
  · obtain ⟨⟨a,b⟩,c⟩:=h6 f hf
    exact ⟨a,b,c⟩
theorem pe_compB {elt iter:Expr} {x:Str} {px pos:Pos} {ifs:List Expr} {scope:Scope} (fs:List (Str × Nat)) {wi:TI} {tt:TT} {te:TE} (hc:X.calm = true)
    (hi:PI X (.Name x px) iter wi)
    (hb:∀ (cl:List (Str × Addr)) (C:Addr) (s₀:Shared) (H₀:Hp) (ex:List Addr),PTs (cxComp X scope cl C (x :: fs.map (·.1)) s₀ H₀ ex) ifs tt∧PE (cxComp X scope cl C (x :: fs.map (·.1)) s₀ H₀ ex) elt te)
    (hk:scope.kind = .function:=by rfl) (hl:compLook scope.names X.env.scope.names X.N x fs = true:=by kernel_rfl)
    (hs:∀ x,foldedSetIterable iter X.env x = pure x:=by intro _; rfl) :
    PE X (.ListComp elt [⟨.Name x px,iter,ifs,0⟩] scope pos) (tComp wi (fs.map (·.2)) tt te):=
  let O:=compOk_of (X:=X) hk hl
  pe_comp fs hc O.kind O.cell O.names O.free O.hx O.nd O.fs hi hb hs
theorem ps_compB {i:Nat} {y:Str} {py spos:Pos} {elt iter:Expr} {x:Str} {px pos:Pos} {ifs:List Expr} {scope:Scope} (fs:List (Str × Nat)) {wi:TI} {tt:TT} {te:TE}
    (hN:X.N.Nodup) (hy:X.N[i]? = some y) (hyl:X.env.scope.names.lookup y = some .local) (hc:X.calm = true)
    (hi:PI X (.Name x px) iter wi)
    (hb:∀ (cl:List (Str × Addr)) (C:Addr) (s₀:Shared) (H₀:Hp) (ex:List Addr),PTs (cxComp X scope cl C (x :: fs.map (·.1)) s₀ H₀ ex) ifs tt∧PE (cxComp X scope cl C (x :: fs.map (·.1)) s₀ H₀ ex) elt te)
    (hk:scope.kind = .function:=by rfl) (hl:compLook scope.names X.env.scope.names X.N x fs = true:=by kernel_rfl)
    (hsw:swapsWith (.ListComp elt [⟨.Name x px,iter,ifs,0⟩] scope pos) (some (.Name y py)) spos.line X.env = pure true:=by rfl)
    (hs:∀ x,foldedSetIterable iter X.env x = pure x:=by intro _; rfl) :
    PS X (.Assign [.Name y py] (.ListComp elt [⟨.Name x px,iter,ifs,0⟩] scope pos) spos) (tCompSet i wi (fs.map (·.2)) tt te):=
  let O:=compOk_of (X:=X) hk hl
  ps_comp fs hN hy hyl hc O.kind O.cell O.names O.free O.hx O.nd O.fs hi hb hsw hs
theorem comp_range {lo:Int} {n:Nat} {σ:St} {fs:List Nat} {tt:TT} {te:TE} {H:Hp} {Q:VK} (Pv:Nat→List V→Hp→Prop) (h0:Pv 0 [] H) (hl:∀ i ys H,i ≤ n→Pv i ys H→ys.length ≤ i) (hn:n ≤ sizeLine)
    (hs:∀ i ys H,i < n→Pv i ys H→∀ R:List V→Hp→Prop,(∀ ys' H',Pv (i + 1) ys' H'→R ys' H')→tt (some (.int (lo + i)) :: compSt fs σ) H fun b H2=>if b = true then te (some (.int (lo + i)) :: compSt fs σ) H2 fun y H3=>R (ys ++ [y]) H3 else R ys H2)
    (hd:∀ ys H,Pv n ys H→∀ p,H p = none→Q (.ref p) (upd H p (.lst ys))) :
    ∃ W:Nat→Nat→List V→Hp→Prop,(∃ m,W 0 m [] H)∧∀ i m ys H,W i m ys H→ys.length ≤ sizeLine∧
      (((Itr lo n).stop i H∧∀ p,H p = none→Q (.ref p) (upd H p (.lst ys))) ∨
       ((Itr lo n).go i H∧ys.length < sizeLine∧∀ x H',(Itr lo n).yld i H x H'→tt (some x :: compSt fs σ) H' fun b H2=>if b = true then te (some x :: compSt fs σ) H2 fun y H3=>∃ m',m' < m∧W (i + 1) m' (ys ++ [y]) H3 else ∃ m',m' < m∧W (i + 1) m' ys H2)):=by
  refine ⟨fun i m ys H=>m = n - i∧i ≤ n∧Pv i ys H,⟨n,by simp,Nat.zero_le _,h0⟩,?_⟩
  rintro i m ys H ⟨rfl,hi,p⟩
  have hle:=hl i ys H hi p
  refine ⟨by omega,?_⟩
  by_cases hlt:i < n
  · refine .inr ⟨hlt,by omega,fun x H' y=>?_⟩
    obtain ⟨e,y⟩:=y
    subst e y
    exact hs i ys _ hlt p (fun ys' H'=>∃ m',m' < n - i∧m' = n - (i + 1)∧i + 1 ≤ n∧Pv (i + 1) ys' H') fun ys' H' q=>⟨n - (i + 1),by omega,rfl,hlt,q⟩
  · have e:i = n:=by omega
    subst e
    exact .inl ⟨Nat.le_refl _,hd ys H p⟩
theorem comp_str {l:List Nat} {σ:St} {fs:List Nat} {tt:TT} {te:TE} {H:Hp} {Q:VK} (Pv:Nat→List V→Hp→Prop) (h0:Pv 0 [] H) (hl:∀ i ys H,i ≤ l.length→Pv i ys H→ys.length ≤ i) (hn:l.length ≤ sizeLine)
    (hs:∀ i c ys H,l[i]? = some c→Pv i ys H→∀ R:List V→Hp→Prop,(∀ ys' H',Pv (i + 1) ys' H'→R ys' H')→tt (some (.str (txt [c])) :: compSt fs σ) H fun b H2=>if b = true then te (some (.str (txt [c])) :: compSt fs σ) H2 fun y H3=>R (ys ++ [y]) H3 else R ys H2)
    (hd:∀ ys H,Pv l.length ys H→∀ p,H p = none→Q (.ref p) (upd H p (.lst ys))) :
    ∃ W:Nat→Nat→List V→Hp→Prop,(∃ m,W 0 m [] H)∧∀ i m ys H,W i m ys H→ys.length ≤ sizeLine∧
      (((Its l).stop i H∧∀ p,H p = none→Q (.ref p) (upd H p (.lst ys))) ∨
       ((Its l).go i H∧ys.length < sizeLine∧∀ x H',(Its l).yld i H x H'→tt (some x :: compSt fs σ) H' fun b H2=>if b = true then te (some x :: compSt fs σ) H2 fun y H3=>∃ m',m' < m∧W (i + 1) m' (ys ++ [y]) H3 else ∃ m',m' < m∧W (i + 1) m' ys H2)):=by
  refine ⟨fun i m ys H=>m = l.length - i∧i ≤ l.length∧Pv i ys H,⟨l.length,by simp,Nat.zero_le _,h0⟩,?_⟩
  rintro i m ys H ⟨rfl,hi,p⟩
  have hle:=hl i ys H hi p
  refine ⟨by omega,?_⟩
  by_cases hlt:i < l.length
  · refine .inr ⟨hlt,by omega,fun x H' y=>?_⟩
    obtain ⟨e,c,hc,y⟩:=y
    subst e y
    exact hs i c ys _ hc p (fun ys' H'=>∃ m',m' < l.length - i∧m' = l.length - (i + 1)∧i + 1 ≤ l.length∧Pv (i + 1) ys' H') fun ys' H' q=>⟨l.length - (i + 1),by omega,rfl,hlt,q⟩
  · have e:i = l.length:=by omega
    subst e
    exact .inl ⟨Nat.le_refl _,hd ys H p⟩
theorem pe_txt {x:Str} {l:List Nat} {j pos} (h:x = txt l):PE X (.Constant (.str x) j pos) (tC (.str (txt l))):=by subst h; exact pe_str
end
def ABC:List Nat:=(List.range 26).map (97 + ·)
theorem small_eq:("abcdefghijklmnopqrstuvwxyz":Str) = txt ABC:=by decide +kernel
theorem abc_len:ABC.length = 26:=by decide
theorem abc_at {i:Nat} (h:i < 26):ABC[i]? = some (97 + i):=by
  unfold ABC
  rw [List.getElem?_map,List.getElem?_range h]; rfl
abbrev rAddI:R2:=rI0 fun i j=>.int (i + j)
abbrev rSubI:R2:=rI0 fun i j=>.int (i - j)
abbrev rDivI:R2:=rI CDiv fun i j=>.int (i / j)
abbrev rModI:R2:=rI (fun _ j=>0 < j) fun i j=>.int (i % j)
abbrev rShrI:R2:=rI (fun _ j=>0 ≤ j) fun i j=>.int (i / 2 ^ j.toNat)
abbrev rLtI:R2:=rI0 fun i j=>.bl (decide (i < j))
abbrev rLeI:R2:=rI0 fun i j=>.bl (decide (i ≤ j))
abbrev rGtI:R2:=rI0 fun i j=>.bl (decide (j < i))
abbrev rGeI:R2:=rI0 fun i j=>.bl (decide (j ≤ i))
def CMulB (i j:Int):Prop:=CMul i j ∨ (Builtin.Int.intBits i ≤ 2 ^ 20∧Builtin.Int.intBits j ≤ 2 ^ 20)
theorem CMulB.l {i j:Int} (h1:-(2 ^ 64) < i) (h2:i < 2 ^ 64):CMulB i j:=.inl (.inl ⟨h1,h2⟩)
theorem CMulB.r {i j:Int} (h1:-(2 ^ 64) < j) (h2:j < 2 ^ 64):CMulB i j:=.inl (.inr ⟨h1,h2⟩)
abbrev rMulI:R2:=rI CMulB fun i j=>.int (i * j)
abbrev rAddS:R2:=fun x y H Q=>∃ i j,x = .str (txt i)∧y = .str (txt j)∧i.length + j.length ≤ sizeLine∧Q (.str (txt (i ++ j))) H
abbrev rIxStr:R2:=fun x y H Q=>∃ (l:List Nat) (i:Nat) (c:Nat),x = .str (txt l)∧y = .int i∧l.length ≤ sizeLine∧l[i]? = some c∧Q (.str (txt [c])) H
abbrev rLtS:R2:=fun x y H Q=>∃ i j,x = .str (txt i)∧y = .str (txt j)∧Q (.bl (decide (i < j))) H
abbrev rGtS:R2:=fun x y H Q=>∃ i j,x = .str (txt i)∧y = .str (txt j)∧Q (.bl (decide (j < i))) H
abbrev rGeS:R2:=fun x y H Q=>∃ i j,x = .str (txt i)∧y = .str (txt j)∧Q (.bl (!decide (i < j))) H
abbrev rLenS:List V→Hp→VK→Prop:=fun xs H Q=>∃ z,xs = [.str (txt z)]∧z.length ≤ sizeLine∧Q (.int z.length) H
abbrev rLenL (K:PySem.W.Frag):List V→Hp→VK→Prop:=fun xs H Q=>∃ p ys,xs = [.ref p]∧(SqL K H p ys ∨ SqT K H p ys)∧Q (.int ys.length) H
abbrev rMin2:List V→Hp→VK→Prop:=fun xs H Q=>∃ i j,xs = [.int i,.int j]∧Q (.int (if j < i then j else i)) H
abbrev rInt1:List V→Hp→VK→Prop:=fun xs H Q=>(∃ i,xs = [.int i]∧Q (.int i) H) ∨ ∃ k,xs = [.bl k]∧Q (.int (if k then 1 else 0)) H
abbrev rListOf (K:PySem.W.Frag):List V→Hp→VK→Prop:=fun xs H Q=>∃ p ys,xs = [.ref p]∧(SqL K H p ys ∨ SqT K H p ys)∧∀ l,H l = none→Q (.ref l) (upd H l (.lst ys))
abbrev rSortedS (K:PySem.W.Frag):List V→Hp→VK→Prop:=fun xs H Q=>∃ p,∃ ys:List (List Nat),xs = [.ref p]∧SqL K H p (ys.map strV)∧ys.length < 64∧∀ l,∀ zs:List (List Nat),H l = none→zs.Perm ys→zs.Pairwise (· ≤ ·)→Q (.ref l) (upd H l (.lst (zs.map strV)))
section
variable {X:Cx}
theorem op_mulB:OpR X (binaryOp .Mult) rMulI:=opI fun _ _ _ _ _ _ _ hc q=>mul_int q (by
  rcases hc with h | h
  · exact h.ok
  · exact IntMulOk.of_bits h.1 h.2)
theorem pe_gstr {x y:Str} {l:List Nat} {pos:Pos} (hg:Gl X x) (hm:∃ t,X.mg x = some (.str y t)) (e:y = txt l) (hd:(x == ("__debug__":Str)) = false:=by decide):PE X (.Name x pos) (tC (.str (txt l))):=by
  obtain ⟨t,hm⟩:=hm
  subst e
  exact pe_glob hg hm ⟨t,rfl⟩ hd
end
theorem SqL.here {K:PySem.W.Frag} {H:Hp} {p:Addr} {xs:List V}:SqL K (upd H p (.lst xs)) p xs:=.inl (.inl upd_same)
theorem Same.new {H H':Hp} {p:Addr} {o:HO} (s:Same H H') (hp:H' p = none):Same H (upd H' p o):=fun b q e=>by
  have:=s b q e
  rw [upd_ne (ne_of_none this hp)]; exact this
theorem Same.up (H:Hp) {p:Addr} {o:HO} (hp:H p = none):Same H (upd H p o):=(Same.refl H).new hp
theorem atI_int {α:Type} {xs:List α} {i:Int} {v:α} (h0:0 ≤ i) (h:xs[i.toNat]? = some v):atI xs i = some v:=by
  obtain ⟨n,rfl⟩:=Int.eq_ofNat_of_zero_le h0
  exact atI_nat (by simpa using h)
theorem for_r1 {ta:TA} {g:TG} {tb:TS} {D:Ends} {σ:St} {H:Hp} {j:Int} (ha:∀ Q:List V→Hp→Prop,Q [.int j] H→ta σ H Q) (hlo:-(2 ^ 62) ≤ j) (hhi:j < 2 ^ 62)
    (Pv:Nat→St→Hp→Prop) (h0:Pv 0 σ H) (hs:∀ (i:Nat) σ H,(i:Int) < j→Pv i σ H→g (.int i) σ H fun σ2 H2=>tb { D with nx:=Pv (i + 1),ct:=Pv (i + 1),bk:=D.nx } σ2 H2)
    (hd:∀ σ H,Pv j.toNat σ H→D.nx σ H):tFor (iRng1 ta) g tb D σ H:=by
  refine ha _ ⟨j,rfl,hlo,hhi,?_⟩
  refine for_range (lo:=0) (n:=j.toNat) Pv h0 (fun i σ H hi p=>?_) hd
  rw [Int.zero_add]
  exact hs i σ H (by omega) p
theorem for_l {K:PySem.W.Frag} {tl:TE} {g:TG} {tb:TS} {D:Ends} {σ:St} {H:Hp} {a:Addr} {xs:List V} (ha:∀ Q:VK,Q (.ref a) H→tl σ H Q) (hx:SqL K H a xs)
    (Pv:Nat→St→Hp→Prop) (h0:Pv 0 σ H) (hl:∀ i σ H,i ≤ xs.length→Pv i σ H→SqL K H a xs)
    (hs:∀ i x σ H,xs[i]? = some x→Pv i σ H→g x σ H fun σ2 H2=>tb { D with nx:=Pv (i + 1),ct:=Pv (i + 1),bk:=D.nx } σ2 H2) (hd:∀ σ H,Pv xs.length σ H→D.nx σ H) :
    tFor (iList K tl) g tb D σ H:=ha _ ⟨a,rfl,⟨xs,hx⟩,for_list (K:=K) Pv h0 hl hs hd⟩
theorem comp_r2 {ta:TA} {fs:List Nat} {tt:TT} {te:TE} {σ:St} {H:Hp} {Q:VK} {l j:Int} (ha:∀ Q:List V→Hp→Prop,Q [.int l,.int j] H→ta σ H Q) (hl0:-(2 ^ 62) ≤ l) (hl1:l < 2 ^ 62) (hlo:-(2 ^ 62) ≤ j) (hhi:j < 2 ^ 62) (hn:(j - l).toNat ≤ sizeLine)
    (Pv:Nat→List V→Hp→Prop) (h0:Pv 0 [] H) (hl:∀ i ys H,i ≤ (j - l).toNat→Pv i ys H→ys.length ≤ i)
    (hs:∀ (i:Nat) ys H,l + (i:Int) < j→Pv i ys H→∀ R:List V→Hp→Prop,(∀ ys' H',Pv (i + 1) ys' H'→R ys' H')→tt (some (.int (l + i)) :: compSt fs σ) H fun b H2=>if b = true then te (some (.int (l + i)) :: compSt fs σ) H2 fun y H3=>R (ys ++ [y]) H3 else R ys H2)
    (hd:∀ ys H,Pv (j - l).toNat ys H→∀ p,H p = none→Q (.ref p) (upd H p (.lst ys))):tComp (iRng2 ta) fs tt te σ H Q:=by
  refine ha _ ⟨l,j,rfl,⟨hl0,hl1,hlo,hhi⟩,?_⟩
  exact comp_range (lo:=l) (n:=(j - l).toNat) Pv h0 hl hn (fun i ys H hi p=>hs i ys H (by omega) p) hd
theorem comp_r1 {ta:TA} {fs:List Nat} {tt:TT} {te:TE} {σ:St} {H:Hp} {Q:VK} {j:Int} (ha:∀ Q:List V→Hp→Prop,Q [.int j] H→ta σ H Q) (hlo:-(2 ^ 62) ≤ j) (hhi:j < 2 ^ 62) (hn:j.toNat ≤ sizeLine)
    (Pv:Nat→List V→Hp→Prop) (h0:Pv 0 [] H) (hl:∀ i ys H,i ≤ j.toNat→Pv i ys H→ys.length ≤ i)
    (hs:∀ (i:Nat) ys H,(i:Int) < j→Pv i ys H→∀ R:List V→Hp→Prop,(∀ ys' H',Pv (i + 1) ys' H'→R ys' H')→tt (some (.int i) :: compSt fs σ) H fun b H2=>if b = true then te (some (.int i) :: compSt fs σ) H2 fun y H3=>R (ys ++ [y]) H3 else R ys H2)
    (hd:∀ ys H,Pv j.toNat ys H→∀ p,H p = none→Q (.ref p) (upd H p (.lst ys))):tComp (iRng1 ta) fs tt te σ H Q:=by
  refine ha _ ⟨j,rfl,hlo,hhi,?_⟩
  refine comp_range (lo:=0) (n:=j.toNat) Pv h0 hl hn (fun i ys H hi p=>?_) hd
  rw [Int.zero_add]
  exact hs i ys H (by omega) p
theorem comp_s {tl:TE} {fs:List Nat} {tt:TT} {te:TE} {σ:St} {H:Hp} {Q:VK} {l:List Nat} (ha:∀ Q:VK,Q (.str (txt l)) H→tl σ H Q) (hn:l.length ≤ sizeLine)
    (Pv:Nat→List V→Hp→Prop) (h0:Pv 0 [] H) (hl:∀ i ys H,i ≤ l.length→Pv i ys H→ys.length ≤ i)
    (hs:∀ i c ys H,l[i]? = some c→Pv i ys H→∀ R:List V→Hp→Prop,(∀ ys' H',Pv (i + 1) ys' H'→R ys' H')→tt (some (.str (txt [c])) :: compSt fs σ) H fun b H2=>if b = true then te (some (.str (txt [c])) :: compSt fs σ) H2 fun y H3=>R (ys ++ [y]) H3 else R ys H2)
    (hd:∀ ys H,Pv l.length ys H→∀ p,H p = none→Q (.ref p) (upd H p (.lst ys))):tComp (iStr tl) fs tt te σ H Q:=ha _ ⟨l,rfl,comp_str Pv h0 hl hn hs hd⟩
theorem lenL_go {K:PySem.W.Frag} {H:Hp} {a:Addr} {xs:List V} {Q:VK} (hS:SqL K H a xs) (q:Q (.int xs.length) H):rLenL K [.ref a] H Q:=⟨a,xs,rfl,.inl hS,q⟩
theorem lenI_go {K:PySem.W.Frag} {H:Hp} {a:Addr} {ns:List Int} {Q:VK} (hS:SqL K H a (ns.map V.int)) (q:Q (.int ns.length) H):rLenL K [.ref a] H Q:=⟨a,_,rfl,.inl hS,by rw [List.length_map]; exact q⟩
theorem lenS_go {H:Hp} {l:List Nat} {Q:VK} (hz:l.length ≤ 100000) (q:Q (.int l.length) H):rLenS [.str (txt l)] H Q:=⟨l,rfl,Nat.le_trans hz (by decide),q⟩
theorem ixI_go {K:PySem.W.Frag} {H:Hp} {a:Addr} {ns:List Int} {i:Int} {Q:VK} (hS:SqL K H a (ns.map V.int)) (h0:0 ≤ i) (h1:i < ns.length) (q:∀ z,z ∈ ns→ns[i.toNat]? = some z→Q (.int z) H):rIxL K (.ref a) (.int i) H Q:=by
  obtain ⟨n,rfl⟩:=Int.eq_ofNat_of_zero_le h0
  have hn:n < ns.length:=by omega
  have e:ns[n]? = some ns[n]:=List.getElem?_eq_getElem hn
  exact ⟨a,_,(n:Int),.int ns[n],rfl,rfl,hS,atI_nat (by rw [List.getElem?_map,e]; rfl),q _ (List.getElem_mem hn) (by simpa using e)⟩
theorem ixL_go {K:PySem.W.Frag} {H:Hp} {a:Addr} {xs:List V} {i:Int} {v:V} {Q:VK} (hS:SqL K H a xs) (h0:0 ≤ i) (h:xs[i.toNat]? = some v) (q:Q v H):rIxL K (.ref a) (.int i) H Q:=
  ⟨a,xs,i,v,rfl,rfl,hS,atI_int h0 h,q⟩
theorem ixT_go {K:PySem.W.Frag} {H:Hp} {a:Addr} {xs:List V} {i:Int} {v:V} {Q:VK} (hS:SqT K H a xs) (h0:0 ≤ i) (h:xs[i.toNat]? = some v) (q:Q v H):rIxT K (.ref a) (.int i) H Q:=
  ⟨a,xs,i,v,rfl,rfl,hS,atI_int h0 h,q⟩
theorem ixS_go {H:Hp} {l:List Nat} {i:Int} {c:Nat} {Q:VK} (hz:l.length ≤ 100000) (h0:0 ≤ i) (h:l[i.toNat]? = some c) (q:Q (.str (txt [c])) H):rIxStr (.str (txt l)) (.int i) H Q:=by
  obtain ⟨n,rfl⟩:=Int.eq_ofNat_of_zero_le h0
  exact ⟨l,n,c,rfl,rfl,Nat.le_trans hz (by decide),by simpa using h,q⟩
theorem ixABC_go {H:Hp} {i:Int} {Q:VK} (h0:0 ≤ i) (h1:i < 26) (q:Q (.str (txt [97 + i.toNat])) H):rIxStr (.str (txt ABC)) (.int i) H Q:=
  ixS_go (by rw [abc_len]; decide) h0 (abc_at (by omega)) q
theorem addS_go {H:Hp} {l m:List Nat} {Q:VK} (hz:l.length + m.length ≤ 100000) (q:Q (.str (txt (l ++ m))) H):rAddS (.str (txt l)) (.str (txt m)) H Q:=⟨l,m,rfl,rfl,Nat.le_trans hz (by decide),q⟩
theorem abc_idx {c:Nat} (h0:97 ≤ c) (h1:c < 123):c ∈ ABC∧ABC.idxOf c = c - 97:=by
  have h:∀ d:Fin 26,(97 + d.val) ∈ ABC∧ABC.idxOf (97 + d.val) = d.val:=by decide
  have e:=h ⟨c - 97,by omega⟩
  have e2:97 + (c - 97) = c:=by omega
  simp only [e2] at e
  exact e
theorem idxABC_go {H:Hp} {c:Nat} {Q:VK} (h0:97 ≤ c) (h1:c < 123) (q:Q (.int (c - 97:Nat)) H):rIndex (.str (txt ABC)) [.str (txt [c])] H Q:=
  ⟨ABC,c,rfl,rfl,(abc_idx h0 h1).1,by rw [(abc_idx h0 h1).2]; exact q⟩
theorem mulB_l {i j:Int} (h1:-18446744073709551616 < i) (h2:i < 18446744073709551616):CMulB i j:=.l (by omega) (by omega)
theorem mulB_r {i j:Int} (h1:-18446744073709551616 < j) (h2:j < 18446744073709551616):CMulB i j:=.r (by omega) (by omega)
theorem cdiv {i j:Int} (h1:0 < j) (h2:j < 1073741824):CDiv i j:=⟨h1,h2⟩
theorem append_go {H:Hp} {l:Addr} {xs:List V} {y:V} {Q:VK} (h:H l = some (.lst xs)) (hz:xs.length < 100000) (q:Q .non (upd H l (.lst (xs ++ [y])))):rAppend (.ref l) [y] H Q:=
  ⟨l,xs,y,rfl,rfl,h,Nat.lt_of_lt_of_le hz (by decide),q⟩
theorem rstrip_go {H:Hp} {l m:List Nat} {Q:VK} (hz:l.length ≤ 100000) (q:Q (.str (txt (rstripL (fun c=>m.contains c) l))) H):rRstrip (.str (txt l)) [.str (txt m)] H Q:=⟨l,m,rfl,rfl,Nat.le_trans hz (by decide),q⟩
theorem slS_go {H:Hp} {l:List Nat} {lo hi:Option Int} {Q:VK} (hz:l.length ≤ 100000) (q:Q (.str (txt (cutL l lo hi))) H):rSlS (.str (txt l)) lo hi H Q:=⟨l,rfl,Nat.le_trans hz (by decide),q⟩
theorem cutL_to {l:List Nat} {k:Int} (h0:0 ≤ k) (h1:k ≤ l.length):cutL l none (some k) = l.take k.toNat:=by
  obtain ⟨n,rfl⟩:=Int.eq_ofNat_of_zero_le h0
  unfold cutL
  rw [HT.sIx_none,HT.sIx_nat,List.drop_zero,Nat.sub_zero]
  congr 1; simp; omega
theorem while_of {c:TT} {tb:TS} {D:Ends} {σ:St} {H:Hp} (Pv:Nat→St→Hp→Prop) (m0:Nat) (h0:Pv m0 σ H)
    (hs:∀ m σ H,Pv m σ H→∀ R:Bool→Hp→Prop,(∀ H1,tb { D with nx:=fun σ' H'=>∃ m',m' < m∧Pv m' σ' H',ct:=fun σ' H'=>∃ m',m' < m∧Pv m' σ' H',bk:=D.nx } σ H1→R true H1)→(∀ H1,D.nx σ H1→R false H1)→c σ H R):tWhile c tb D σ H:=by
  refine ⟨Pv,⟨m0,h0⟩,fun m σ H p=>?_⟩
  refine hs m σ H p _ (fun H1 h=>?_) (fun H1 h=>?_)
  · exact ⟨_,fun σ' H' h=>h,h⟩
  · exact h
structure QE (X:Cx) (e:Expr) (t:TE):Prop where p:PE X e t
structure QT (X:Cx) (e:Expr) (t:TT):Prop where p:PT X e t
structure QW (X:Cx) (e:Expr) (t:TT):Prop where p:PW X e t
structure QA (X:Cx) (es:List Expr) (t:TA):Prop where p:PA X es t
structure QS (X:Cx) (st:Stmt) (t:TS):Prop where p:PS X st t
structure QSs (X:Cx) (st:List Stmt) (t:TS):Prop where p:PSs X st t
structure QG (X:Cx) (tg:Expr) (t:TG):Prop where p:PG X tg t
structure QGs (X:Cx) (ts:List Expr) (t:TGs):Prop where p:PGs X ts t
structure QI (X:Cx) (tg iter:Expr) (t:TI):Prop where p:PI X tg iter t
structure QO (X:Cx) (e:Option Expr) (t:TO):Prop where p:PO X e t
structure QTs (X:Cx) (ifs:List Expr) (t:TT):Prop where p:PTs X ifs t
section
variable {X:Cx} {e o a b iter tg:Expr} {es:List Expr} {te to ta tb:TE} {t u:TA} {x:Str} {p pos pos':Pos}
theorem kv (i:Nat) (hN:X.N[i]? = some x:=by kernel_rfl) (hv:X.env.scope.names.lookup x = some .local:=by kernel_rfl) (hd:(x == ("__debug__":Str)) = false:=by kernel_rfl)
    (hcd:(x == ("__classdict__":Str)) = false:=by kernel_rfl):QE X (.Name x pos) (tVar i):=⟨pe_var hN (.inl hv) hd hcd⟩
theorem kvc (i:Nat) (hN:X.N[i]? = some x:=by kernel_rfl) (hv:X.env.scope.names.lookup x = some .cell:=by kernel_rfl) (hd:(x == ("__debug__":Str)) = false:=by kernel_rfl)
    (hcd:(x == ("__classdict__":Str)) = false:=by kernel_rfl):QE X (.Name x pos) (tVar i):=⟨pe_var hN (.inr (.inl hv)) hd hcd⟩
theorem ke_int {i:Int} {j:Nat}:QE X (.Constant (.int i) j pos) (tC (.int i)):=⟨pe_int⟩
theorem ke_bl {c:Bool} {j:Nat}:QE X (.Constant (.bool c) j pos) (tC (.bl c)):=⟨pe_bl⟩
theorem ke_non {j:Nat}:QE X (.Constant .none j pos) (tC .non):=⟨pe_non⟩
theorem ke_txt {y:Str} {l:List Nat} {j:Nat} (h:y = txt l:=by kernel_rfl):QE X (.Constant (.str y) j pos) (tC (.str (txt l))):=⟨pe_txt h⟩
theorem ka_nil:QA X [] tNil:=⟨pa_nil⟩
theorem ka_cons (ha:QE X e te) (hr:QA X es t) (hs:starEach (e :: es) X.env = (false,eval e X.env) :: starEach es X.env:=by kernel_rfl):QA X (e :: es) (tCons te t):=⟨pa_cons ha.p hr.p hs⟩
theorem ke_gstr {y:Str} {l:List Nat} (hm:∃ t,X.mg x = some (.str y t)) (e:y = txt l) (hg:X.env.kindOf x = some .globalImplicit:=by kernel_rfl) (hd:(x == ("__debug__":Str)) = false:=by kernel_rfl):QE X (.Name x pos) (tC (.str (txt l))):=⟨pe_gstr hg hm e hd⟩
theorem ke_call {CX:CXT} {k:Nat} {f:Addr} {fd:FuncData} {ps:List Str} {sp:Sp} {E:XK} (F:FnOk X.prog X.w X.K X.mg X.base CX k f fd ps sp) (hr:Room k X.A) (hm:X.mg x = some (.ref f)) (hk:PySem.W.keepIn X.K (.ref f) = true) (hb:Binds X.K fd ps []) (hx:Passes CX X E)
    (ha:QA X (e :: es) t) (hg:X.env.kindOf x = some .globalImplicit:=by kernel_rfl) (hdb:(x == ("__debug__":Str)) = false:=by kernel_rfl) (he:starEach (e :: es) X.env = (false,eval e X.env) :: starEach es X.env:=by kernel_rfl) (hpl:(backTo pos (starEach es X.env)).any (·.1) = false:=by kernel_rfl) :
    QE X (.Call (.Name x p) (e :: es) [] pos) (tCall sp [] E t):=⟨pe_call F hr hg hm hk hb .nil hx ha.p hdb he hpl⟩
theorem ke_callB {id:String} {r:List V→Hp→VK→Prop} (hc:CallR X (.builtin id) r) (hm:X.mg x = none) (hv:bootBuiltins x = some (.builtin id)) (ha:QA X (e :: es) t)
    (hg : X.env.kindOf x = some .globalImplicit := by kernel_rfl) (hn : decide (x = "__name__") = false := by kernel_rfl) (hdb : (x == ("__debug__" : Str)) = false := by kernel_rfl)
    (he:starEach (e :: es) X.env = (false,eval e X.env) :: starEach es X.env:=by kernel_rfl) (hpl:(backTo pos (starEach es X.env)).any (·.1) = false:=by kernel_rfl) :
    QE X (.Call (.Name x p) (e :: es) [] pos) (tCB r t):=⟨pe_callB hc hg hm hv ha.p (of_decide_eq_false hn) hdb he hpl⟩
theorem ke_callTy {T:String} {r:List V→Hp→VK→Prop} (hc:CallR X (.type T) r) (hm:X.mg x = none) (hv:bootBuiltins x = some (.type T)) (ha:QA X (e :: es) t)
    (hg : X.env.kindOf x = some .globalImplicit := by kernel_rfl) (hn : decide (x = "__name__") = false := by kernel_rfl) (hdb : (x == ("__debug__" : Str)) = false := by kernel_rfl)
    (he:starEach (e :: es) X.env = (false,eval e X.env) :: starEach es X.env:=by kernel_rfl) (hpl:(backTo pos (starEach es X.env)).any (·.1) = false:=by kernel_rfl) :
    QE X (.Call (.Name x p) (e :: es) [] pos) (tCB r t):=⟨pe_callTy hc hg hm hv ha.p (of_decide_eq_false hn) hdb he hpl⟩
theorem ke_op {op:Operator} {r:R2} (ho:OpR X (binaryOp op) r) (ha:QE X a ta) (hb:QE X b tb):QE X (.BinOp a op b pos) (tOp r ta tb):=⟨pe_op ho ha.p hb.p⟩
theorem ke_one {op} {t:TE} (h:QE X a t):QE X (.BoolOp op [a] pos) t:=⟨pe_one h.p⟩
theorem ke_and {rest:List Expr} (ha:QE X a ta) (hb:QE X (.BoolOp .And (b :: rest) pos) tb):QE X (.BoolOp .And (a :: b :: rest) pos) (tAndV ta tb):=⟨pe_and ha.p hb.p⟩
theorem ke_ifExp {c:Expr} {tc:TT} (hc:QT X c tc) (ha:QE X a ta) (hb:QE X b tb):QE X (.IfExp c a b pos) (tIf tc ta tb):=⟨pe_ifExp hc.p ha.p hb.p⟩
theorem ke_lst (h:QA X es t):QE X (.List es pos) (tLst t):=⟨pe_lst h.p⟩
theorem ke_tup {x1} (h:QA X es t):QE X (.Tuple es x1 pos) (tTup t):=⟨pe_tup h.p⟩
theorem ko_none:QO X none tNoPart:=⟨po_none⟩
theorem ko_some (h:QE X e te):QO X (some e) (tPart te):=⟨po_some h.p⟩
theorem ke_slice {p2:Pos} {lo hi:Option Expr} {tl th:TO} {r:V→Option Int→Option Int→Hp→VK→Prop} (hr:SlR X r) (he:QE X e te) (hl:QO X lo tl) (hu:QO X hi th):QE X (.Subscript e (.Slice lo hi none p2) pos) (tSl r te tl th):=⟨pe_slice hr he.p hl.p hu.p⟩
theorem ke_ix {r:R2} (hr:IxR X r) (ha:QE X a ta) (hb:QE X b tb) (hs:∀ o i,subscripted b false o i = operate [o,i] (getItem o i):=by intro _ _; kernel_rfl):QE X (.Subscript a b pos) (tOp r ta tb):=⟨pe_ix hr ha.p hb.p hs⟩
variable {name:Str} {apos cpos:Pos} {T id:String} {r:V→List V→Hp→VK→Prop}
theorem ke_bm0 (pa:PlainAttrs T) (slot:Slot T name id) (hty:typeOf (.builtin id) = pure (.type "method_descriptor")) (hm:MtR X id r) (ho:QE X o to)
    (hbase:attributeBase o name X.env (eval o X.env) = eval o X.env:=by kernel_rfl) (hline:(apos.endLine == cpos.line) = true:=by kernel_rfl):QE X (.Call (.Attribute o name apos) [] [] cpos) (tBM0 X.K T r to):=⟨pe_bm0 pa slot hty hm ho.p hbase hline⟩
theorem ke_bm (pa:PlainAttrs T) (slot:Slot T name id) (hty:typeOf (.builtin id) = pure (.type "method_descriptor")) (hm:MtR X id r) (ho:QE X o to) (ha:QA X (e :: es) t)
    (hbase:attributeBase o name X.env (eval o X.env) = eval o X.env:=by kernel_rfl)
    (hfew:((backTo cpos (starEach (e :: es) X.env)).all (fun x=>!x.1) && (backToKw cpos (keywordEach [] X.env)).all (fun x=>x.1.isSome)
      && decide ((e :: es).length + ([]:List Keyword).length + (if ([]:List Keyword).isEmpty then 0 else 1) < 30)) = true:=by kernel_rfl)
    (hline:(apos.endLine == cpos.line) = true:=by kernel_rfl) (hs:starEach (e :: es) X.env = (false,eval e X.env) :: starEach es X.env:=by kernel_rfl) (hplain:(backTo cpos (starEach es X.env)).any (·.1) = false:=by kernel_rfl) :
    QE X (.Call (.Attribute o name apos) (e :: es) [] cpos) (tBM X.K T r to t):=⟨pe_bm pa slot hty hm ho.p ha.p hbase hfew hline hs hplain⟩
theorem kt_val (h:QE X e te) (he:∀ whole,isTrue e X.env whole = (do let v ← whole; standAt e.pos; holding [v] (truthy v)):=by intro _; kernel_rfl):QT X e (tB te):=⟨pt_val h.p he⟩
theorem kt_cmp {op:CmpOp} {r:R2} (ho:OpR X (compareOp op) r) (ha:QE X a ta) (hb:QE X b tb) (hm:behindInMarks op b = false:=by kernel_rfl):QT X (.Compare a [op] [b] pos) (tTest (tOp r ta tb)):=⟨pt_cmpR ho ha.p hb.p hm⟩
theorem ke_cmp {op:CmpOp} {r:R2} (ho:OpR X (compareOp op) r) (ha:QE X a ta) (hb:QE X b tb) (hm:behindInMarks op b = false:=by kernel_rfl):QE X (.Compare a [op] [b] pos) (tOp r ta tb):=⟨pe_cmpR ho ha.p hb.p hm⟩
theorem kt_isN {j:Nat} {pos'':Pos} (ha:QE X e te):QT X (.Compare e [.Is] [.Constant .none j pos''] pos) (tB (tIsN te)):=⟨pt_cmp (pc_isN ha.p) (nobehind _ (by decide) (by decide))⟩
theorem kt_notN {j:Nat} {pos'':Pos} (ha:QE X e te):QT X (.Compare e [.IsNot] [.Constant .none j pos''] pos) (tB (tNotN te)):=⟨pt_cmp (pc_notN ha.p) (nobehind _ (by decide) (by decide))⟩
variable {tA tB':TT} {rest:List Expr}
theorem kt_not (ha:QT X a tA):QT X (.UnaryOp .Not a pos) (tNot tA):=⟨pt_not ha.p⟩
theorem kw_and1 (ha:QT X a tA):QW X (.BoolOp .And [a] pos) tA:=⟨pw_and1 ha.p⟩
theorem kw_or1 (ha:QT X a tA):QW X (.BoolOp .Or [a] pos) tA:=⟨pw_or1 ha.p⟩
theorem kw_and (ha:QT X a tA) (hb:QW X (.BoolOp .And (b :: rest) pos) tB'):QW X (.BoolOp .And (a :: b :: rest) pos) (tAnd tA tB'):=⟨pw_and ha.p hb.p⟩
theorem kw_or (ha:QT X a tA) (hb:QW X (.BoolOp .Or (b :: rest) pos) tB'):QW X (.BoolOp .Or (a :: b :: rest) pos) (tOr tA tB'):=⟨pw_or ha.p hb.p⟩
theorem kt_w (h:QW X e tA):QT X e tA:=⟨h.p.pt⟩
theorem kts_nil:QTs X [] tYes:=⟨pts_nil⟩
theorem kts_one {c:Expr} {t:TT} (h:QT X c t):QTs X [c] t:=⟨pts_one h.p⟩
theorem ki_range1 {ta : TA} (hm : X.mg "range" = none) (ha : QA X [a] ta) (hg : X.env.kindOf "range" = some .globalImplicit := by kernel_rfl) (hs : starEach [a] X.env = [(false, eval a X.env)] := by kernel_rfl) : QI X tg (.Call (.Name "range" p) [a] [] pos) (iRng1 ta) := ⟨pi_range1 hg hm ha.p hs⟩
theorem ki_range2 {ta : TA} (hm : X.mg "range" = none) (ha : QA X [a, b] ta) (hg : X.env.kindOf "range" = some .globalImplicit := by kernel_rfl) (hs : starEach [a, b] X.env = [(false, eval a X.env), (false, eval b X.env)] := by kernel_rfl) (hs2 : starEach [b] X.env = [(false, eval b X.env)] := by kernel_rfl) : QI X tg (.Call (.Name "range" p) [a, b] [] pos) (iRng2 ta) := ⟨pi_range2 hg hm ha.p hs hs2⟩
theorem ki_list {tl:TE} (hl:QE X a tl):QI X tg a (iList X.K tl):=⟨pi_list hl.p⟩
theorem ki_str {tl:TE} (hl:QE X a tl):QI X tg a (iStr tl):=⟨pi_str hl.p⟩
theorem ke_comp {elt:Expr} {px:Pos} {ifs:List Expr} {scope:Scope} (fs:List (Str × Nat)) {wi:TI} {tt:TT} {te:TE}
    (hi:QI X (.Name x px) iter wi)
    (hb:∀ (cl:List (Str × Addr)) (C:Addr) (s₀:Shared) (H₀:Hp) (ex:List Addr),QTs (cxComp X scope cl C (x :: fs.map (·.1)) s₀ H₀ ex) ifs tt∧QE (cxComp X scope cl C (x :: fs.map (·.1)) s₀ H₀ ex) elt te)
    (hc:X.calm = true:=by kernel_rfl) (hk:scope.kind = .function:=by kernel_rfl) (hl:compLook scope.names X.env.scope.names X.N x fs = true:=by kernel_rfl)
    (hs:∀ x,foldedSetIterable iter X.env x = pure x:=by intro _; kernel_rfl) :
    QE X (.ListComp elt [⟨.Name x px,iter,ifs,0⟩] scope pos) (tComp wi (fs.map (·.2)) tt te):=⟨pe_compB fs hc hi.p (fun cl C s₀ H₀ ex=>⟨(hb cl C s₀ H₀ ex).1.p,(hb cl C s₀ H₀ ex).2.p⟩) hk hl hs⟩
theorem ks_comp {i:Nat} {y:Str} {py spos:Pos} {elt:Expr} {px:Pos} {ifs:List Expr} {scope:Scope} (fs:List (Str × Nat)) {wi:TI} {tt:TT} {te:TE}
    (hN:X.N.Nodup) (hi:QI X (.Name x px) iter wi)
    (hb:∀ (cl:List (Str × Addr)) (C:Addr) (s₀:Shared) (H₀:Hp) (ex:List Addr),QTs (cxComp X scope cl C (x :: fs.map (·.1)) s₀ H₀ ex) ifs tt∧QE (cxComp X scope cl C (x :: fs.map (·.1)) s₀ H₀ ex) elt te)
    (hy:X.N[i]? = some y:=by kernel_rfl) (hyl:X.env.scope.names.lookup y = some .local:=by kernel_rfl) (hc:X.calm = true:=by kernel_rfl)
    (hk:scope.kind = .function:=by kernel_rfl) (hl:compLook scope.names X.env.scope.names X.N x fs = true:=by kernel_rfl)
    (hsw:swapsWith (.ListComp elt [⟨.Name x px,iter,ifs,0⟩] scope pos) (some (.Name y py)) spos.line X.env = pure true:=by kernel_rfl)
    (hs:∀ x,foldedSetIterable iter X.env x = pure x:=by intro _; kernel_rfl) :
    QS X (.Assign [.Name y py] (.ListComp elt [⟨.Name x px,iter,ifs,0⟩] scope pos) spos) (tCompSet i wi (fs.map (·.2)) tt te):=⟨ps_compB fs hN hy hyl hc hi.p (fun cl C s₀ H₀ ex=>⟨(hb cl C s₀ H₀ ex).1.p,(hb cl C s₀ H₀ ex).2.p⟩) hk hl hsw hs⟩
variable {st:Stmt} {sts:List Stmt} {t1 t2:TS}
theorem kss_nil:QSs X [] tNext:=⟨pss_nil⟩
theorem kss_cons (h1:QS X st t1) (h2:QSs X sts t2):QSs X (st :: sts) (tSeq t1 t2):=⟨pss_cons h1.p h2.p⟩
theorem kss_one (h1:QS X st t1):QSs X [st] t1:=⟨pss_one h1.p⟩
theorem ks_set {i:Nat} (hN:X.N.Nodup) (he:QE X e te) (hi:X.N[i]? = some x:=by kernel_rfl) (hx:X.env.scope.names.lookup x = some .local:=by kernel_rfl) (hs:swapsWith e (some (.Name x pos')) pos.line X.env = pure false:=by kernel_rfl) :
    QS X (.Assign [.Name x pos'] e pos) (tAsg te (gName i)):=⟨ps_set hN hi (.inl hx) he.p hs (.inr hx)⟩
theorem ks_setc {i:Nat} (hN:X.N.Nodup) (he:QE X e te) (hi:X.N[i]? = some x:=by kernel_rfl) (hx:X.env.scope.names.lookup x = some .cell:=by kernel_rfl) (hs:swapsWith e (some (.Name x pos')) pos.line X.env = pure false:=by kernel_rfl) (hf:X.fn x = true:=by kernel_rfl) :
    QS X (.Assign [.Name x pos'] e pos) (tAsg te (gName i)):=⟨ps_set hN hi (.inr hx) he.p hs (.inl hf)⟩
theorem ks_expr (he:QE X e te) (hs:swapsWith e none pos.line X.env = pure false:=by kernel_rfl):QS X (.Expr e pos) (tDrop te):=⟨ps_expr he.p hs⟩
theorem ks_ret (he:QE X e te):QS X (.Return (some e) pos) (tRet te):=⟨ps_ret he.p⟩
theorem ks_if {c:Expr} {l1 l2:List Stmt} {tc:TT} (hc:QT X c tc) (ha:QSs X l1 t1) (hb:QSs X l2 t2):QS X (.If c l1 l2 pos) (tIfS tc t1 t2):=⟨ps_if hc.p ha.p hb.p⟩
theorem ks_while {c:Expr} {body:List Stmt} {tc:TT} (hc:QT X c tc) (hb:QSs X body t1) (hp:PassesOwn (model X.prog X.w) X.A X.env X.xe:=by exact PassesOwn.never):QS X (.While c body [] pos) (tWhile tc t1):=⟨ps_while hp hc.p hb.p⟩
theorem ks_never:QS X st tNever:=⟨ps_never⟩
theorem kg_name {i:Nat} (hN:X.N.Nodup) (hi:X.N[i]? = some x:=by kernel_rfl) (hx:X.env.scope.names.lookup x = some .local:=by kernel_rfl):QG X (.Name x pos) (gName i):=⟨pg_name hN hi (.inl hx) (.inr hx)⟩
theorem kg_namec {i:Nat} (hN:X.N.Nodup) (hi:X.N[i]? = some x:=by kernel_rfl) (hx:X.env.scope.names.lookup x = some .cell:=by kernel_rfl) (hf:X.fn x = true:=by kernel_rfl):QG X (.Name x pos) (gName i):=⟨pg_name hN hi (.inr hx) (.inl hf)⟩
theorem ks_for {body:List Stmt} {wi:TI} {g:TG} {tb:TS} (hi:QI X tg iter wi) (hg:QG X tg g) (hb:QSs X body tb) (hp:PassesOwn (model X.prog X.w) X.A X.env X.xe:=by exact PassesOwn.never) (hc:X.calm = true:=by kernel_rfl) (hs:∀ x,foldedSetIterable iter X.env x = pure x:=by intro _; kernel_rfl):QS X (.For tg iter body [] pos) (tFor wi g tb):=⟨ps_for hp hc hi.p hg.p hb.p hs⟩
theorem ks_asg {g:TG} (he:QE X e te) (hg:QG X tg g) (hs:swapsWithSole [tg] e pos.line X.env = pure false:=by kernel_rfl) (hw:swappedStores [tg] e X.env = pure none:=by kernel_rfl)
    (h1:(assignEach [tg] X.env).map (·.2) = [assign tg X.env]:=by kernel_rfl):QS X (.Assign [tg] e pos) (tAsg te g):=⟨ps_asg he.p hg.p hs hw h1⟩
theorem kgs_nil:QGs X [] gNil:=⟨pgs_nil⟩
theorem kgs_cons {t:TG} {u:TGs} (h1:QG X e t) (h2:QGs X es u) (hs:(assignEach (e :: es) X.env).map (·.2) = assign e X.env :: (assignEach es X.env).map (·.2):=by kernel_rfl):QGs X (e :: es) (gCons t u):=⟨pgs_cons h1.p h2.p hs⟩
theorem kg_tup {k:Nat} {t:TGs} {n:Nat} (h:QGs X es t) (hc:X.calm = true:=by kernel_rfl) (hn:(assignEach es X.env).length = n:=by kernel_rfl) (hst:(assignEach es X.env).findIdx? (·.1) = none:=by kernel_rfl):QG X (.Tuple es k pos) (gTup X.K n t):=⟨pg_tup hc h.p hn hst⟩
end
theorem Fun.okQ {P:Program} {w:World} {K:PySem.W.Frag} {mg:Str→Option Value} {base:Heap} {x qual:Str} {st:Stmt} {f:Addr} {fd:FuncData} {N ps:List Str} {k:Nat} {sp:Sp} (F:Fun K x qual st f fd) (S:FnScope N ps (defScope st)) {rd:TS} (len:∀ vs H Q E,sp vs H Q E→vs.length = ps.length)
    (hb:∀ (cdv:Value) (A:Around) (outer:List Env) (s:Shared) (H:Hp) (E:XK),Room k (A.deeper (envOfC qual (defScope st) s.heap.objs.size f cdv))→QSs (cxOf CX0 P w K mg base N qual (defScope st) f cdv A outer s H E).nox (defBody st) rd)
    (hq:∀ (vs:List V) (H:Hp) (Q:VK) (E:XK),sp vs H Q E→rd { nx:=fun _ H'=>Q .non H',rt:=Q } (start N vs) H):FnOk P w K mg base CX0 (k + 1) f fd ps sp:=
  F.ok S len fun cdv A outer s H vs Q E hr h=>⟨rd,(hb cdv A outer s H E hr).p,hq vs H Q E h⟩
section
variable {X:Cx}
def isTy (t T:String):Option Bool:=if (Value.type t == Value.type T) = true then some true else if PySem.W.kitMeta T = true then (fastBuiltinMro t).map (·.contains (.type T)) else none
theorem isTy_kit {K:PySem.W.Frag} {t T:String} {b:Bool} (h:isTy t T = some b):PySem.W.kitOne K (.type t) (.type T) = some b:=h
theorem isTy_tuple_tuple:isTy "tuple" "tuple" = some true:=by kernel_rfl
def rIsi (K:PySem.W.Frag) (T:String):V→Hp→VK→Prop:=fun x H Q=>∃ t b,TyOf K H x (.type t)∧isTy t T = some b∧Q (.bl b) H
def tIsi (K:PySem.W.Frag) (T:String) (ta:TE):TE:=fun σ H Q=>ta σ H fun x H1=>rIsi K T x H1 Q
theorem ke_isi {e:Expr} {te:TE} {y z:Str} {T:String} {p p2 pos:Pos} (hm:X.mg y = none) (hv:bootBuiltins y = some (.builtin "isinstance")) (hm2:X.mg z = none) (hv2:bootBuiltins z = some (.type T)) (he:QE X e te)
    (hg : X.env.kindOf y = some .globalImplicit := by kernel_rfl) (hn : decide (y = "__name__") = false := by kernel_rfl) (hdb : (y == ("__debug__" : Str)) = false := by kernel_rfl)
    (hg2 : X.env.kindOf z = some .globalImplicit := by kernel_rfl) (hn2 : decide (z = "__name__") = false := by kernel_rfl) (hdb2 : (z == ("__debug__" : Str)) = false := by kernel_rfl)
    (hs1:starEach [e,.Name z p2] X.env = (false,eval e X.env) :: starEach [.Name z p2] X.env:=by kernel_rfl) (hs2:starEach [.Name z p2] X.env = (false,eval (.Name z p2) X.env) :: starEach [] X.env:=by kernel_rfl)
    (hpl:(backTo pos (starEach [.Name z p2] X.env)).any (·.1) = false:=by kernel_rfl) :
    QE X (.Call (.Name y p) [e,.Name z p2] [] pos) (tIsi X.K T te):=by
  have hR:CallR X (.builtin "isinstance") (fun xs H Q=>∃ x,xs = [x,.ty T]∧rIsi X.K T x H Q):=by
    intro pins s σ H xs us Q I r h
    obtain ⟨x,rfl,t,b,ty,hk,q⟩:=h
    obtain ⟨u,w',rfl,ru,rw'⟩:=vals2 r
    obtain rfl:w' = Value.type T:=rw'
    exact isinst_ok I ru ty (isTy_kit hk) fun tk=>⟨.bl b,H,I.tok tk,rfl,q⟩
  have hP:=pe_callB (x:=y) (p:=p) (pos:=pos) hR hg hm hv (pa_cons he.p (pa_cons (pe_bltn (v:=.ty T) hg2 hm2 hv2 rfl (of_decide_eq_false hn2) hdb2) pa_nil hs2) hs1) (of_decide_eq_false hn) hdb hs1 hpl
  refine ⟨fun pins s σ H Q I h=>hP pins s σ H Q I ?_⟩
  show te σ H fun x H1=>_
  exact (show (te σ H fun x H1=>rIsi X.K T x H1 Q)→te σ H (fun x H1=>∃ x',[x,V.ty T] = [x',.ty T]∧rIsi X.K T x' H1 Q) from fun q=>by
    have e:(fun x H1=>∃ x',[x,V.ty T] = [x',.ty T]∧rIsi X.K T x' H1 Q) = fun x H1=>rIsi X.K T x H1 Q:=by
      funext x H1
      refine propext ⟨fun ⟨x',e,q⟩=>?_,fun q=>⟨x,rfl,q⟩⟩
      cases e; exact q
    rw [e]; exact q) h
end
structure UnB (fs:List Addr) (H H':Hp) (h B h':Heap):Prop where
  keep:∀ b o,h.get? b = some o→H b = none→b ∉ fs→B.get? b = some o
  slot:∀ b o,h.get? b = some o→H b = none→b ∈ fs→∃ sl,h'.get? b = some { o with slots:=sl }
  free:∀ b o,h.get? b = some o→H b = none→H' b = none
  there:∀ b o,h.get? b = some o→b ∉ fs→∃ o',B.get? b = some o'
  tups:∀ b xs,H b = some (.tup xs)→H' b = some (.tup xs)
  frzs:∀ b o u,H b = some (.frz o u)→H' b = some (.frz o u)
  tbls:∀ b ps,H b = some (.tbl ps)→∃ more,H' b = some (.tbl (ps ++ more))
def CX1 (P:Program) (w:World):CXT:=fun outer H s E e s'=>∃ (ea:Addr) (cls:Value) (t:Addr) (H':Hp) (B:Heap),e = .ref ea∧s'.os = s.os∧AllBare s'.gens∧
  Heap.FlyingW B outer ea cls (.ref t) s'.heap∧HOk P w H' B∧UnB (frs outer) H H' s.heap B s'.heap∧E cls none H'
theorem frs_none {base h:Heap} {l:List Env} (f:h.FunFrames base l) {b:Addr} (hb:b ∈ frs l):base.get? b = none∧∃ o,h.get? b = some o∧∀ vs,o.data ≠ .fields vs:=f.mem hb
section
variable {P:Program} {w:World} {K:PySem.W.Frag} {mg:Str→Option Value} {base:Heap} {N:List Str} {qual:Str} {scope:Scope} {f:Addr} {cd:Value} {A:Around} {outer:List Env} {s:Shared} {H:Hp} {E:XK}
theorem made_def {pins:List (Addr × Obj)} {σ:St} {H2:Hp} {s2:Shared} {h':Heap} {e:Addr} {cls:Value} {vs:List Value} (I:Inv (cxOf (CX1 P w) P w K mg base N qual scope f cd A outer s H E) pins σ H2 s2)
    (hx:Heap.MadeExcOf s2.heap h' e cls vs) (q:E cls none H2):(cxOf (CX1 P w) P w K mg base N qual scope f cd A outer s H E).xe (.ref e) { s2 with heap:=h' }:=by
  generalize eF:frs (cxOf (CX1 P w) P w K mg base N qual scope f cd A outer s H E).stack = F
  have hin:∀ env ∈ (cxOf (CX1 P w) P w K mg base N qual scope f cd A outer s H E).stack,∀ b,env.frame = some b→b ∈ F:=fun env he b hb=>by rw [← eF]; exact List.mem_filterMap.mpr ⟨env,he,hb⟩
  have neL:∀ b o,s.heap.get? b = some o→b ≠ s.heap.objs.size:=fun b o e=>Nat.ne_of_lt (Heap.lt_size e)
  have nF:∀ b o,s.heap.get? b = some o→b ∉ frs outer→b ∉ F:=fun b o e hb z=>by
    rw [← eF] at z
    rcases List.mem_cons.mp (I.stkSub b z) with y | y
    · exact neL b o e y
    · exact hb y
  have gB:∀ b o,s2.heap.get? b = some o→b ∉ F→(PySem.W.hideAll s2.heap F).get? b = some o:=fun b o e hb=>PySem.W.hideAll_get _ e hb
  show wpAny _ _ (leaving _ (.ref e)) _ _ _
  refine wpAny_leaves_madeW (base:=PySem.W.hideAll s2.heap F) (h:=s2.heap) I.ok.frames rfl (fun b o q=>PySem.W.of_hideAll _ q) (PySem.W.funFrames_hide I.stack hin) hx fun h2 t hfl htup hn hsm=>?_
  refine ⟨e,cls,t,H2,PySem.W.hideAll s2.heap F,rfl,I.os,I.bare,hfl,fun a o ea=>(I.hok a o ea).stay (fun b u hb eu=>gB b u eu fun z=>?_) (fun c q=>q) (fun c xs q=>q),⟨fun b o eb n hb=>?_,fun b o eb n hb=>?_,fun b o eb n=>?_,fun b o eb hb=>?_,I.base.tups,I.base.frzs,I.base.tbls⟩,q⟩
  · have hf:=I.stkFree b (by rw [eF]; exact z)
    rcases hb with rfl | hb
    · rw [hf] at ea; cases ea
    · rw [hf] at hb; cases hb
  · exact gB b o (I.base.keep b o eb n hb (List.not_mem_nil)) (nF b o eb hb)
  · obtain ⟨sl,e1⟩:=I.base.slot b o eb n hb (List.not_mem_nil)
    obtain ⟨_,o2,e2,d2⟩:=frs_none I.stack (List.mem_cons_of_mem _ hb:b ∈ s.heap.objs.size :: frs outer)
    rw [e1] at e2
    cases e2
    obtain ⟨sl',e3⟩:=hsm b _ (hx.keeps _ _ e1) d2
    exact ⟨sl',e3⟩
  · exact I.base.free b o eb n (List.not_mem_nil)
  · obtain ⟨o',e1⟩:=I.base.there b o eb (List.not_mem_nil)
    exact ⟨o',gB b o' e1 (nF b o eb hb)⟩
theorem pass_def:Passes (CX1 P w) (cxOf (CX1 P w) P w K mg base N qual scope f cd A outer s H E) E:=by
  rintro pins σ H1 s1 e s2 I ⟨ea,cls,t,H2,B,rfl,hos,hg,hfl,hok,ub,q⟩
  have neL:∀ b o,s.heap.get? b = some o→b ≠ s.heap.objs.size:=fun b o e=>Nat.ne_of_lt (Heap.lt_size e)
  have nF:∀ b o,s.heap.get? b = some o→b ∉ frs outer→b ∉ frs (cxOf (CX1 P w) P w K mg base N qual scope f cd A outer s H E).stack:=fun b o e hb z=>by
    rcases List.mem_cons.mp (I.stkSub b z) with y | y
    · exact neL b o e y
    · exact hb y
  have yF:∀ b,b ∈ frs outer→b ∈ frs (cxOf (CX1 P w) P w K mg base N qual scope f cd A outer s H E).stack:=fun b hb=>(List.mem_cons_of_mem _ hb:b ∈ s.heap.objs.size :: frs outer)
  show wpAny _ _ (leaving _ (.ref ea)) _ _ _
  refine wpAny_leaves_onW I.ok.frames rfl hfl fun h3 hfl3 hsm=>?_
  refine ⟨ea,cls,t,H2,B,rfl,hos.trans I.os,hg,hfl3,hok,⟨fun b o eb n hb=>?_,fun b o eb n hb=>?_,fun b o eb n=>?_,fun b o eb hb=>?_,fun b xs e=>ub.tups b xs (I.base.tups b xs e),fun b o u e=>ub.frzs b o u (I.base.frzs b o u e),fun b ps e=>?_⟩,q⟩
  · exact ub.keep b o (I.base.keep b o eb n hb (List.not_mem_nil)) (I.base.free b o eb n (List.not_mem_nil)) (nF b o eb hb)
  · obtain ⟨sl,e1⟩:=I.base.slot b o eb n hb (List.not_mem_nil)
    obtain ⟨sl',e2⟩:=ub.slot b _ e1 (I.base.free b o eb n (List.not_mem_nil)) (yF b hb)
    obtain ⟨_,o2,e3,d3⟩:=frs_none hfl.2.2.1 (yF b hb)
    rw [e2] at e3
    cases e3
    obtain ⟨sl2,e4⟩:=hsm b _ e2 d3
    exact ⟨sl2,e4⟩
  · obtain ⟨o',e1⟩:=I.base.there b o eb (List.not_mem_nil)
    exact ub.free b o' e1 (I.base.free b o eb n (List.not_mem_nil))
  · obtain ⟨o',e1⟩:=I.base.there b o eb (List.not_mem_nil)
    exact ub.there b o' e1 (nF b o eb hb)
  · obtain ⟨m1,e1⟩:=I.base.tbls b ps e
    obtain ⟨m2,e2⟩:=ub.tbls b _ e1
    exact ⟨m1 ++ m2,by rw [e2,Array.append_assoc]⟩
end
theorem exc_obj {K:PySem.W.Frag} {h:Heap} {C:Addr} {bmB:List Value} {newId:String} (X:K.In h) (q:PySem.W.excIn K C bmB newId = true) :
    ∃ bm N nm qn bs hdct sn sub ab col dd k0 k1 k2 k3 k5 mN,h.get? C = some (excClassObj nm qn C N bs bm hdct sn sub ab col dd k0 k1 k2 k3 k5 newId)∧h.Ns N mN∧mN "__init__" = none∧OwnTail h bmB bm:=by
  unfold PySem.W.excIn at q
  split at q
  next dd cd sl look=>
    split at q
    next C1 tl a0 a1 a2 a3 nid a5 e1 e2=>
      simp only [Bool.and_eq_true,beq_iff_eq,Bool.not_eq_true'] at q
      obtain ⟨⟨⟨⟨⟨q1,q2⟩,q3⟩,q4⟩,q5⟩,q6⟩:=q
      subst q1 q2
      cases cd
      dsimp only at e1 q3 q5 q6
      subst e1 q3
      have e3:sl = #[a0,a1,a2,a3,some (.builtin nid),a5]:=by
        cases sl
        dsimp only at e2
        rw [e2]
      subst e3
      exact ⟨tl,_,_,_,_,_,_,_,_,_,_,_,_,_,_,_,_,X _ _ look,.of_isNs (PySem.W.isNs_of_in X q5),PySem.W.nsMap_none_of_in X q5 q6,PySem.W.tail_of_in X q4⟩
    next=>cases q
  next=>cases q
def tRaise (cls:Value) (E:XK) (ta:TA):TS:=fun _ σ H=>ta σ H fun vs H1=>vs.length ≤ 8∧E cls none H1
section
variable {X:Cx}
theorem ps_raise {x:Str} {e:Expr} {es:List Expr} {ta:TA} {C:Addr} {B newId initId:String} {bmB:List Value} {E:XK} {np cpos pos:Pos} (FB:ExcBaseFacts B newId initId bmB) (hC:PySem.W.excIn X.K C bmB newId = true)
    (hg:Gl X x) (hm:X.mg x = some (.ref C)) (hc:X.calm = true) (ha:PA X (e :: es) ta)
    (hx:∀ (pins:List (Addr × Obj)) (σ:St) (H2:Hp) (s2:Shared) (h':Heap) (ea:Addr) (vs:List Value),Inv X pins σ H2 s2→Heap.MadeExcOf s2.heap h' ea (.ref C) vs→E (.ref C) none H2→X.xe (.ref ea) { s2 with heap:=h' })
    (hdb:(x == ("__debug__":Str)) = false) (he:starEach (e :: es) X.env = (false,eval e X.env) :: starEach es X.env) (hpl:(backTo cpos (starEach es X.env)).any (·.1) = false) :
    PS X (.Raise (some (.Call (.Name x np) (e :: es) [] cpos)) none pos) (tRaise (.ref C) E ta):=by
  intro pins s σ H D I h
  obtain ⟨bm,N,nm,qn,bs,hdct,sn,sub,ab,col,dd,k0,k1,k2,k3,k5,mN,hO,hN,hni,TL⟩:=exc_obj I.mod.kin hC
  refine wpAny_Raise_call_subT (C:=C) (nm:=nm) (q:=qn) (N:=N) (bs:=bs) (bm:=bm) (hdct:=hdct) (sn:=sn) (sub:=sub) (ab:=ab) (col:=col) (dd:=dd) (k0:=k0) (k1:=k1) (k2:=k2) (k3:=k3) (k5:=k5)
    FB (mN:=mN) (TL.hasType FB.hasBase) (I.ok.hd hc) (by rw [he]; show (false || (backTo cpos (starEach es X.env)).any (·.1)) = false; rw [hpl]; rfl) hni (ld_glob I hg hm ⟨rfl,?_⟩ hdb)
  have hA:=ha cpos pins s σ H _ I h
  rw [he] at hA ⊢
  refine Calls.evalArgs_plain (thn hA fun us s2 ⟨vs,H2,I2,r2,hz,q2⟩=>⟨rfl,?_,I2.bk _ _ hO,hN.keeps I2.bk,TL.keeps I2.bk,fun h' ea hmade=>hx pins σ H2 s2 h' ea us I2 hmade q2⟩)
  show us.length ≤ sizeLine
  rw [← r2.length]
  exact Nat.le_trans hz (by decide)
end
mutual
inductive Dat (K:PySem.W.Frag) (H:Hp):V→PyData→Prop where
  | non:Dat K H .non .none
  | bl (b:Bool):Dat K H (.bl b) (.bool b)
  | int (i:Int):Dat K H (.int i) (.int i)
  | str (x:Str):Dat K H (.str x) (.str x)
  | lst {a:Addr} {xs:List V} {ds:List PyData} (h:SqL K H a xs) (t:DatAll K H xs ds):Dat K H (.ref a) (.list ds)
  | tup {a:Addr} {xs:List V} {ds:List PyData} (h:SqT K H a xs) (t:DatAll K H xs ds):Dat K H (.ref a) (.tuple ds)
inductive DatAll (K:PySem.W.Frag) (H:Hp):List V→List PyData→Prop where
  | nil:DatAll K H [] []
  | cons {x:V} {xs:List V} {d:PyData} {ds:List PyData} (h:Dat K H x d) (t:DatAll K H xs ds):DatAll K H (x :: xs) (d :: ds)
end
section
variable {X:Cx} {pins:List (Addr × Obj)} {σ:St} {H:Hp} {s:Shared}
mutual
theorem Inv.dat (I:Inv X pins σ H s):∀ {x:V} {d:PyData} {u:Value},Dat X.K H x d→RelV x u→∃ as,Reads s.heap u d as
  | _,_,_,.non,r=>by cases (show _ = Value.none from r); exact ⟨_,.none⟩
  | _,_,_,.bl b,r=>by cases (show _ = Value.bool b from r); exact ⟨_,.bool b⟩
  | _,_,_,.int i,r=>by obtain ⟨t,rfl⟩:=(show ∃ t,_ = Value.int i t from r); exact ⟨_,.int i t⟩
  | _,_,_,.str x,r=>by obtain ⟨t,rfl⟩:=(show ∃ t,_ = Value.str x t from r); exact ⟨_,.str x t⟩
  | _,_,_,.lst (a:=a) h t,r=>by
    cases (show _ = Value.ref a from r)
    obtain ⟨its,rv,⟨o,n,e,c,_,d⟩,_⟩:=I.list h
    obtain ⟨as,z⟩:=Inv.datAll I t rv
    exact ⟨_,.list e c d (by simpa using z)⟩
  | _,_,_,.tup (a:=a) h t,r=>by
    cases (show _ = Value.ref a from r)
    obtain ⟨its,rv,⟨o,e,c,n,d⟩,_⟩:=I.tuple h
    obtain ⟨as,z⟩:=Inv.datAll I t rv
    exact ⟨_,.tuple e c d (by simpa using z)⟩
theorem Inv.datAll (I:Inv X pins σ H s):∀ {xs:List V} {ds:List PyData} {us:List Value},DatAll X.K H xs ds→Vals xs us→∃ as,ReadsAll s.heap us ds as
  | _,_,_,.nil,.nil=>⟨_,.nil⟩
  | _,_,_,.cons h t,.cons r rr=>by
    obtain ⟨as,z⟩:=Inv.dat I h r
    obtain ⟨bs,z'⟩:=Inv.datAll I t rr
    exact ⟨_,.cons z z'⟩
end
end
abbrev rEqD (K:PySem.W.Frag):R2:=fun x y H Q=>∃ da db,Dat K H x da∧Dat K H y db∧SeqAt.shaped da = true∧SeqAt.shaped db = true∧Q (.bl (PyData.eqv da db)) H
abbrev rNeD (K:PySem.W.Frag):R2:=fun x y H Q=>∃ da db,Dat K H x da∧Dat K H y db∧SeqAt.shaped da = true∧SeqAt.shaped db = true∧Q (.bl (!PyData.eqv da db)) H
section
variable {X:Cx}
theorem op_eqD (hu:X.A.units + 64 < cLine):OpR X (compareOp .Eq) (rEqD X.K):=by
  intro pins s σ H x y v u Q I rx ry h
  obtain ⟨da,db,h1,h2,s1,s2,q⟩:=h
  obtain ⟨as,z1⟩:=I.dat h1 rx
  obtain ⟨bs,z2⟩:=I.dat h2 ry
  exact eq_dataH z1 z2 s1 s2 hu ⟨.bl _,H,I,rfl,q⟩
theorem op_neD (hu:X.A.units + 64 < cLine):OpR X (compareOp .NotEq) (rNeD X.K):=by
  intro pins s σ H x y v u Q I rx ry h
  obtain ⟨da,db,h1,h2,s1,s2,q⟩:=h
  obtain ⟨as,z1⟩:=I.dat h1 rx
  obtain ⟨bs,z2⟩:=I.dat h2 ry
  exact ne_dataH z1 z2 s1 s2 hu ⟨.bl _,H,I,rfl,q⟩
end
theorem PS.nox {X:Cx} {st:Stmt} {t:TS} (h:PS X.nox st t):PS X st t:=fun pins s σ H D I hw=>
  wpAny_mono (h pins s σ H D (I.wish _) hw) (fun _ _ q=>q.unwish) fun _ _ z=>z.elim
section
variable {X:Cx} {e:Expr} {es:List Expr} {t:TA} {x:Str} {p pos np cpos hpos:Pos}
theorem ks_nox {st:Stmt} {t:TS} (h:QS X.nox st t):QS X st t:=⟨PS.nox h.p⟩
theorem pass1 {P:Program} {w:World}:Passes (CX1 P w) X E0:=fun _ _ _ _ _ _ _ ⟨_,_,_,_,_,_,_,_,_,_,_,q⟩=>q.elim
theorem ks_raise {C:Addr} {B newId initId:String} {bmB:List Value} {E:XK} (FB:ExcBaseFacts B newId initId bmB) (hC:PySem.W.excIn X.K C bmB newId = true) (hm:X.mg x = some (.ref C)) (ha:QA X (e :: es) t)
    (hx:∀ (pins:List (Addr × Obj)) (σ:St) (H2:Hp) (s2:Shared) (h':Heap) (ea:Addr) (vs:List Value),Inv X pins σ H2 s2→Heap.MadeExcOf s2.heap h' ea (.ref C) vs→E (.ref C) none H2→X.xe (.ref ea) { s2 with heap:=h' })
    (hg:X.env.kindOf x = some .globalImplicit:=by kernel_rfl) (hc:X.calm = true:=by kernel_rfl)
    (hdb:(x == ("__debug__":Str)) = false:=by kernel_rfl) (he:starEach (e :: es) X.env = (false,eval e X.env) :: starEach es X.env:=by kernel_rfl) (hpl:(backTo cpos (starEach es X.env)).any (·.1) = false:=by kernel_rfl) :
    QS X (.Raise (some (.Call (.Name x np) (e :: es) [] cpos)) none pos) (tRaise (.ref C) E t):=⟨ps_raise FB hC hg hm hc ha.p hx hdb he hpl⟩
end
theorem Fun.okX {P:Program} {w:World} {K:PySem.W.Frag} {mg:Str→Option Value} {base:Heap} {x qual:Str} {st:Stmt} {f:Addr} {fd:FuncData} {N ps:List Str} {k:Nat} {sp:Sp} (F:Fun K x qual st f fd) (S:FnScope N ps (defScope st)) {rd:XK→TS} (len:∀ vs H Q E,sp vs H Q E→vs.length = ps.length)
    (hb:∀ (cdv:Value) (A:Around) (outer:List Env) (s:Shared) (H:Hp) (E:XK),Room k (A.deeper (envOfC qual (defScope st) s.heap.objs.size f cdv))→QSs (cxOf (CX1 P w) P w K mg base N qual (defScope st) f cdv A outer s H E) (defBody st) (rd E))
    (hq:∀ (vs:List V) (H:Hp) (Q:VK) (E:XK),sp vs H Q E→rd E { nx:=fun _ H'=>Q .non H',rt:=Q } (start N vs) H):FnOk P w K mg base (CX1 P w) (k + 1) f fd ps sp:=by
  obtain ⟨oc,od,kV,doc,pm,an,cdv,ct,osl,rfl,lk,hcd⟩:=F.ex
  exact fn_of lk hcd S len fun A outer s H vs Q E hr hsp=>⟨rd E,(hb cdv A outer s H E hr).p,hq vs H Q E hsp⟩
end L2
namespace L2
open PySem PySem.Spec PyProof.Rows PySem.Builtin.Str
abbrev rMin2S:List V→Hp→VK→Prop:=fun xs H Q=>∃ i j,xs = [.str (txt i),.str (txt j)]∧Q (.str (txt (if j < i then j else i))) H
def twoOf (a b:List Nat) (i:Nat):List Nat:=if i = 0 then a else b
theorem two_at {a b:List Nat} {t u:Tok} {i:Nat} {v:Value} (h:(#[Value.str (txt a) t,Value.str (txt b) u])[i]? = some v):∃ t',v = .str (txt (twoOf a b i)) t':=by
  match i,h with
  | 0,h=>simp at h; exact ⟨t,h.symm⟩
  | 1,h=>simp at h; exact ⟨u,h.symm⟩
  | _ + 2,h=>simp at h
section
variable {prog:Program} {w:World} {A:Around} {E:Value→Shared→Prop} {s:Shared}
theorem min_two_txts {a b:List Nat} {t u:Tok} {Q:Value→Shared→Prop} (hh:A.handled = none)
    (h:∀ h' tk,(∀ c o,s.heap.get? c = some o→h'.get? c = some o)→Q (if b < a then .str (txt b) u else .str (txt a) t) { s with heap:=h',toks:=tk }) :
    wpAny (model prog w) A (call (.builtin "min") [.str (txt a) t,.str (txt b) u]) Q E s:=by
  have hT:(s.heap.push { cls:=.type "tuple",data:=.seq #[.str (txt a) t,.str (txt b) u] }).IsTuple s.heap.objs.size #[.str (txt a) t,.str (txt b) u]:=⟨_,Heap.get?_push_size _ rfl,rfl,0,rfl⟩
  refine call_min_two (wpAny_pyIter_tuple hT ?_)
  have hsz:(s.heap.push { cls:=.type "tuple",data:=.seq #[Value.str (txt a) t,.str (txt b) u] }).objs.size = s.heap.objs.size + 1:=Heap.size_push ..
  have cmp:CmpOf prog w A.in1 .Lt (fun i v=>(#[Value.str (txt a) t,.str (txt b) u])[i]? = some v) (fun i j=>decide (twoOf a b i < twoOf a b j)):=fun i j vi vj s' Q' E' hi hj hq=>by
    obtain ⟨t1,rfl⟩:=two_at hi
    obtain ⟨t2,rfl⟩:=two_at hj
    exact (lt_str (by rw [codes_txt,codes_txt]; exact hq):wpAny (model prog w) A.in1 (compareOp .Lt (.str (txt (twoOf a b i)) t1) (.str (txt (twoOf a b j)) t2)) Q' E' s')
  refine ⟨_,[_,s.heap.objs.size],[_],_,_,_,_,rfl,Walks.tuple (A:=A.in1) hh _ s.heap.objs.size (by rw [hsz]; exact Nat.ne_of_lt (Nat.lt_succ_self _)) #[.str (txt a) t,.str (txt b) u],
    ⟨⟨_,Heap.get?_push_size _ rfl,rfl,rfl⟩,hT.push _⟩,fun c hc=>?_,Nat.zero_lt_two,cmp,fun v h' tk hP hk=>?_⟩
  · show c < ((s.heap.push _).push _).objs.size
    rw [Heap.size_push,hsz]
    rcases List.mem_cons.mp hc with z | z
    · rw [z,hsz]; exact Nat.lt_succ_self _
    · rw [List.mem_singleton.mp z]; exact Nat.lt_succ_of_lt (Nat.lt_succ_self _)
  · have old:∀ c o,s.heap.get? c = some o→h'.get? c = some o:=fun c o e=>by
      refine hk c o (fun hm=>?_) (Heap.get?_push_of_some _ (Heap.get?_push_of_some _ e))
      have lt:=Heap.lt_size e
      rw [List.mem_singleton.mp hm,hsz] at lt
      exact absurd (Nat.lt_of_succ_lt lt) (Nat.lt_irrefl _)
    have fin:=h h' tk old
    have hv:v = if b < a then Value.str (txt b) u else Value.str (txt a) t:=by
      have hP':(#[Value.str (txt a) t,.str (txt b) u])[argBest (fun i j=>decide (twoOf a b i < twoOf a b j)) 1]? = some v:=hP
      by_cases hba:b < a
      · have e:argBest (fun i j=>decide (twoOf a b i < twoOf a b j)) 1 = 1:=by simp [argBest,twoOf,hba]
        rw [e] at hP'; rw [if_pos hba]; simpa using hP'.symm
      · have e:argBest (fun i j=>decide (twoOf a b i < twoOf a b j)) 1 = 0:=by simp [argBest,twoOf,hba]
        rw [e] at hP'; rw [if_neg hba]; simpa using hP'.symm
    rw [hv]; exact fin
end
section
variable {X:Cx}
theorem call_min2S (hc:X.calm = true):CallR X (.builtin "min") rMin2S:=by
  intro pins s σ H xs us Q I r h
  obtain ⟨i,j,rfl,q⟩:=h
  obtain ⟨u,w',rfl,⟨t,rfl⟩,⟨t',rfl⟩⟩:=vals2 r
  refine min_two_txts (I.ok.hd hc) fun h' tk k=>⟨_,H,I.kept k,?_,q⟩
  by_cases hj:j < i
  · rw [if_pos hj,if_pos hj]; exact ⟨_,rfl⟩
  · rw [if_neg hj,if_neg hj]; exact ⟨_,rfl⟩
end
variable {X:Cx}
theorem seq_any {A C:TS} {D:Ends} {σ:St} {H:Hp} (h:∀ c:St→Hp→Prop,(∀ σ' H',C D σ' H'→c σ' H')→A { D with nx:=c } σ H):tSeq A C D σ H:=h _ fun _ _ z=>z
theorem seq_set {te:TE} {i:Nat} {C:TS} {D:Ends} {σ:St} {H:Hp} (h:∀ c:V→Hp→Prop,(∀ x H1,C D (σ.set i (some x)) H1→c x H1)→te σ H c):tSeq (tAsg te (gName i)) C D σ H:=h _ fun _ _ z=>z
theorem slTo_go {H:Hp} {l:List Nat} {i:Int} {Q:VK} (hz:l.length ≤ 100000) (h0:0 ≤ i) (h1:i ≤ l.length) (q:Q (.str (txt (l.take i.toNat))) H):rSlS (.str (txt l)) none (some i) H Q:=
  slS_go hz (by rw [cutL_to h0 (by omega)]; exact q)
theorem comp_lst {K:PySem.W.Frag} {a:Addr} {xs:List V} {σ:St} {fs:List Nat} {tt:TT} {te:TE} {H:Hp} {Q:VK} (Pv:Nat→List V→Hp→Prop) (h0:Pv 0 [] H) (hl:∀ i ys H,i ≤ xs.length→Pv i ys H→SqL K H a xs∧ys.length ≤ i) (hn:xs.length ≤ sizeLine)
    (hs:∀ i x ys H,xs[i]? = some x→Pv i ys H→∀ R:List V→Hp→Prop,(∀ ys' H',Pv (i + 1) ys' H'→R ys' H')→tt (some x :: compSt fs σ) H fun b H2=>if b = true then te (some x :: compSt fs σ) H2 fun y H3=>R (ys ++ [y]) H3 else R ys H2)
    (hd:∀ ys H,Pv xs.length ys H→∀ p,H p = none→Q (.ref p) (upd H p (.lst ys))) :
    ∃ W:Nat→Nat→List V→Hp→Prop,(∃ m,W 0 m [] H)∧∀ i m ys H,W i m ys H→ys.length ≤ sizeLine∧
      (((Itl K a).stop i H∧∀ p,H p = none→Q (.ref p) (upd H p (.lst ys))) ∨
       ((Itl K a).go i H∧ys.length < sizeLine∧∀ x H',(Itl K a).yld i H x H'→tt (some x :: compSt fs σ) H' fun b H2=>if b = true then te (some x :: compSt fs σ) H2 fun y H3=>∃ m',m' < m∧W (i + 1) m' (ys ++ [y]) H3 else ∃ m',m' < m∧W (i + 1) m' ys H2)):=by
  refine ⟨fun i m ys H=>m = xs.length - i∧i ≤ xs.length∧Pv i ys H,⟨xs.length,by simp,Nat.zero_le _,h0⟩,?_⟩
  rintro i m ys H ⟨rfl,hi,p⟩
  obtain ⟨hq,hle⟩:=hl i ys H hi p
  refine ⟨by omega,?_⟩
  by_cases hlt:i < xs.length
  · refine .inr ⟨⟨xs,xs[i],hq,by simp [hlt]⟩,by omega,fun x H' y=>?_⟩
    obtain ⟨e,y⟩:=y
    subst e
    exact hs i x ys _ (y xs hq) p (fun ys' H'=>∃ m',m' < xs.length - i∧m' = xs.length - (i + 1)∧i + 1 ≤ xs.length∧Pv (i + 1) ys' H') fun ys' H' q=>⟨xs.length - (i + 1),by omega,rfl,hlt,q⟩
  · have e:i = xs.length:=by omega
    subst e
    exact .inl ⟨⟨xs,hq,Nat.le_refl _⟩,hd ys H p⟩
theorem comp_l {K:PySem.W.Frag} {tl:TE} {a:Addr} {xs:List V} {σ:St} {fs:List Nat} {tt:TT} {te:TE} {H:Hp} {Q:VK} (ha:∀ Q:VK,Q (.ref a) H→tl σ H Q) (hq:SqL K H a xs) (Pv:Nat→List V→Hp→Prop) (h0:Pv 0 [] H) (hl:∀ i ys H,i ≤ xs.length→Pv i ys H→SqL K H a xs∧ys.length ≤ i) (hn:xs.length ≤ sizeLine)
    (hs:∀ i x ys H,xs[i]? = some x→Pv i ys H→∀ R:List V→Hp→Prop,(∀ ys' H',Pv (i + 1) ys' H'→R ys' H')→tt (some x :: compSt fs σ) H fun b H2=>if b = true then te (some x :: compSt fs σ) H2 fun y H3=>R (ys ++ [y]) H3 else R ys H2)
    (hd:∀ ys H,Pv xs.length ys H→∀ p,H p = none→Q (.ref p) (upd H p (.lst ys))):tComp (iList K tl) fs tt te σ H Q:=ha _ ⟨a,rfl,⟨xs,hq⟩,comp_lst Pv h0 hl hn hs hd⟩
end L2
namespace Asc
open PySem PyProof.Rows
end Asc
namespace L2
open PySem PySem.Spec PyProof.Rows
def tComp2 (K:PySem.W.Frag) (wi:TI) (fs:List Nat) (tt:TT) (te:TE):TE:=fun σ H Q=>wi σ H fun J H1=>∃ W:Nat→Nat→List V→Hp→Prop,(∃ m,W 0 m [] H1)∧∀ i m ys H,W i m ys H→ys.length ≤ sizeLine∧
  ((J.stop i H∧∀ p,H p = none→Q (.ref p) (upd H p (.lst ys))) ∨
   (J.go i H∧ys.length < sizeLine∧∀ x H',J.yld i H x H'→∃ p v0 v1,x = .ref p∧SqT K H' p [v0,v1]∧tt (some v0 :: some v1 :: compSt fs σ) H' fun b H2=>if b = true then te (some v0 :: some v1 :: compSt fs σ) H2 fun y H3=>∃ m',m' < m∧W (i + 1) m' (ys ++ [y]) H3 else ∃ m',m' < m∧W (i + 1) m' ys H2))
def tCompSet2 (K:PySem.W.Frag) (i:Nat) (wi:TI) (fs:List Nat) (tt:TT) (te:TE):TS:=fun D σ H=>tComp2 K wi fs tt te σ H fun v H1=>D.nx (σ.set i (some v)) H1
section
variable {X:Cx}
theorem comp_block2 {elt iter:Expr} {x x2:Str} {px px2 ptg pos:Pos} {kt:Nat} {ifs:List Expr} {scope:Scope} {fs:List (Str × Nat)} {tt:TT} {te:TE}
    {pins:List (Addr × Obj)} {σ:St} {H2:Hp} {s2:Shared} {it:Addr} {fp:List Addr} {tn:Nat→Heap→Prop} {J:It} {cl:List (Str × Addr)} {E:Value→Shared→Prop}
    {P:Value→Addr→Result→Shared→Prop}
    (hc:X.calm = true) (hkind:scope.kind = .function) (hcell:∀ y ∈ scope.names,y.2 ≠ .cell) (hx:scope.names.lookup x = some .local) (hx2:scope.names.lookup x2 = some .local)
    (hnd:(x :: x2 :: fs.map (·.1)).Nodup) (hfs:∀ f ∈ fs,X.N[f.2]? = some f.1∧(X.env.kindOf f.1 = some .cell ∨ X.env.kindOf f.1 = some .free)∧scope.names.lookup f.1 = some .free)
    (hb:∀ (cl:List (Str × Addr)) (C:Addr) (s₀:Shared) (H₀:Hp) (ex:List Addr),PTs (cxComp X scope cl C (x :: x2 :: fs.map (·.1)) s₀ H₀ ex) ifs tt∧PE (cxComp X scope cl C (x :: x2 :: fs.map (·.1)) s₀ H₀ ex) elt te)
    (hcl1:∀ y ∈ cl,X.env.cells.lookup y.1 = some y.2) (hcl2:∀ y ∈ scope.names,y.2 = .free→∃ c,(y.1,c) ∈ cl)
    (I2:Inv X pins σ H2 s2) (T:Turn X.prog X.w X.K (.Tuple [.Name x px,.Name x2 px2] kt ptg) J fp it tn) (st2:tn 0 s2.heap) (f2:∀ b ∈ fp,FpOk X pins H2 b)
    (W:Nat→Nat→List V→Hp→Prop) (Qe:Hp→List V→Prop) (w0:∃ m,W 0 m [] H2)
    (turn:∀ i m ys H,W i m ys H→ys.length ≤ sizeLine∧
      ((J.stop i H∧Qe H ys) ∨
       (J.go i H∧ys.length < sizeLine∧∀ x H',J.yld i H x H'→∃ p v0 v1,x = .ref p∧SqT X.K H' p [v0,v1]∧tt (some v0 :: some v1 :: compSt (fs.map (·.2)) σ) H' fun b H2=>if b = true then te (some v0 :: some v1 :: compSt (fs.map (·.2)) σ) H2 fun y H3=>∃ m',m' < m∧W (i + 1) m' (ys ++ [y]) H3 else ∃ m',m' < m∧W (i + 1) m' ys H2)))
    (hP:∀ (D C:Addr) (H':Hp) (s':Shared) (ys:List V) (its:List Value) (m:Str→Option Value),s2.heap.objs.size ≤ C→s2.heap.get? D = none→s2.heap.get? C = none→D ≠ C→H' D = none→H' C = none→s'.heap.Ns C m→s'.heap.PlainList D its.toArray→Vals ys its→ys.length ≤ sizeLine→Qe H' ys→
      Un (frs X.stack) fp H2 H' s2.heap s'.heap→HOk X.prog X.w H' s'.heap→AllBare s'.gens→s'.os = s2.os→P (.ref D) C (.ok .next) s') :
    wpAny (model X.prog X.w) X.A (newList []) (fun acc s₃=>wpAny (model X.prog X.w) X.A (newFunctionEnv scope X.env.globals cl [] X.env.qual none .none (some X.env)) (fun cenv s₄=>
      codeAny (model X.prog X.w) X.A (.compStart (.ListComp elt [⟨.Tuple [.Name x px,.Name x2 px2] kt ptg,iter,ifs,0⟩] scope pos) 0 (.ref it) acc { cenv with scope:=relabel scope X.env }) (P acc cenv.locals) s₄) E s₃) E s2:=by
  refine wpAny_newObj_type (wpAny_newFunctionEnv hcell (by intro y hy; simp at hy) (fun h₁ hns₁ hsb₁=>?_) hkind)
  dsimp only at hns₁ hsb₁ ⊢
  generalize hH2:s2.heap.push { cls:=.type "list",dict:=none,data:=.seq ([]:List Value).toArray } = HH at hns₁ hsb₁ ⊢
  have hC:HH.objs.size = s2.heap.objs.size + 1:=by rw [← hH2,Heap.size_push]
  generalize eD:s2.heap.objs.size = D at *
  generalize eC:HH.objs.size = C at *
  have hDC:D ≠ C:=by rw [hC]; exact Nat.ne_of_lt (Nat.lt_succ_self _)
  have fresh:∀ a,D ≤ a→s2.heap.get? a = none:=fun a ha=>Heap.get?_none_of_le (by rw [eD]; exact ha)
  have hD0:s2.heap.get? D = none:=fresh D (Nat.le_refl _)
  have hC0:s2.heap.get? C = none:=fresh C (by rw [hC]; exact Nat.le_succ _)
  have old:∀ b o,s2.heap.get? b = some o→h₁.get? b = some o:=fun b o e=>hsb₁.extBut b o (fun z=>by rw [z,hC0] at e; cases e) (Heap.get?_push_of_some _ (hH2 ▸ Heap.get?_push_of_some _ e))
  have hacc:h₁.PlainList D #[]:=⟨0,hsb₁.extBut _ _ hDC (Heap.get?_push_of_some _ (hH2 ▸ (eD ▸ Heap.get?_push_size _ rfl)))⟩
  have HD:H2 D = none:=I2.hok.fresh (by rw [eD]; exact Nat.le_refl _)
  have HC:H2 C = none:=I2.hok.fresh (by rw [eD,hC]; exact Nat.le_succ _)
  -- the block's context
  let Y:Cx:=cxComp X scope cl C (x :: x2 :: fs.map (·.1)) s2 H2 fp
  have lk:∀ y c,cl.lookup y = some c→X.env.cells.lookup y = some c:=fun y c e=>hcl1 (y,c) (lookup_mem e)
  have yok:Y.Ok:=by
    refine ⟨I2.ok.mod,hkind,I2.ok.glob,I2.ok.blt,?_,fun y z c h1 h2=>I2.ok.inj y z c (lk y c h1) (lk z c h2),fun y hy=>?_,fun _ _ h _=>absurd h Bool.false_ne_true,I2.ok.hd,I2.ok.frames,.inl rfl,fun b hb=>?_,I2.bs,?_,fun b o e hb=>?_,fun b hb hz=>?_,I2.stack,I2.stkFree⟩
    · show s2.heap.objs.size ≤ C
      rw [eD,hC]; exact Nat.le_succ _
    · have hy':(relabel scope X.env).names.lookup y = some .cell ∨ (relabel scope X.env).names.lookup y = some .free:=hy
      have hm:(y,NameKind.free) ∈ scope.names:=by
        rcases hy' with e | e
        · rcases relabel_mem (lookup_mem e) with q | ⟨_,q⟩
          · exact absurd rfl (hcell _ q)
          · exact q
        · rcases relabel_mem (lookup_mem e) with q | ⟨q,_⟩
          · exact q
          · cases q
      obtain ⟨c,q⟩:=hcl2 _ hm rfl
      exact mem_lookup q
    · obtain ⟨f0,f1,f3,f4,f5,f6⟩:=f2 b hb
      refine ⟨fun z=>?_,fun y c e=>f5 y c (lk y c e)⟩
      obtain ⟨o,ho,_⟩:=T.obj _ _ st2 b hb
      have z':b = C:=z
      rw [z',hC0] at ho; cases ho
    · exact Nat.le_trans I2.ok.bsz I2.sz
    · obtain ⟨f0,f1,f3,f4,f5,f6⟩:=f2 b hb
      rcases f4 with z | z
      · exact I2.ok.noex b o e z
      · exact absurd (Nat.lt_of_lt_of_le (Heap.lt_size e) (Nat.le_trans I2.ok.bsz z)) (Nat.lt_irrefl _)
    · obtain ⟨f0,f1,f3,f4,f5,f6⟩:=f2 b hb
      rcases List.mem_cons.mp (I2.stkSub b hz) with z | z
      · exact f1 z
      · exact f3 z
  let τ:St:=none :: none :: compSt (fs.map (·.2)) σ
  have hτ:τ.length = (x :: x2 :: fs.map (·.1)).length:=by simp [τ,compSt]
  obtain ⟨mL,hnL,hlL⟩:=id I2.loc
  have yI:Inv Y [] τ H2 { s2 with heap:=h₁,toks:=s2.toks + ([]:List (Str × Value)).length }:=by
    refine ⟨yok,rfl,I2.bare,Un.kept old,⟨_,hns₁,fun i y v e1 e2 e3=>?_⟩,fun y c e=>?_,HC,fun y c e=>I2.freeC y c (lk y c e),(fun p hp=>nomatch hp),I2.hok.kept old,hτ⟩
    · cases i with
      | zero=>simp [τ] at e2
      | succ i0=>
       cases i0 with
       | zero=>simp [τ] at e2
       | succ i=>
        have e1':(fs.map (·.1))[i]? = some y:=e1
        have e2':(compSt (fs.map (·.2)) σ)[i]? = some (some v):=by simpa [τ] using e2
        rw [List.getElem?_map] at e1'
        cases q:fs[i]? with
        | none=>rw [q] at e1'; cases e1'
        | some f=>
          rw [q] at e1'
          have ey:f.1 = y:=Option.some.inj e1'
          obtain ⟨g1,g2,g3⟩:=hfs f (List.mem_of_getElem? q)
          have e2'':(σ[f.2]?).join = some v:=by
            unfold compSt at e2'
            rw [List.getElem?_map,List.getElem?_map,q] at e2'
            exact Option.some.inj e2'
          have e2c:σ[f.2]? = some (some v):=by
            cases r:σ[f.2]? with
            | none=>rw [r] at e2''; cases e2''
            | some o=>rw [r] at e2''; have e2'':o = some v:=e2''; rw [e2'']
          have vis:Vis X.env.scope f.1:=by
            rcases g2 with g | g
            · exact .inr (.inl g)
            · exact .inr (.inr g)
          obtain ⟨u,ru,lu⟩:=hlL f.2 f.1 v g1 e2c vis
          refine ⟨u,ru,?_⟩
          have lu':∃ c,X.env.cells.lookup f.1 = some c∧s2.heap.IsCell c (some u):=by
            rcases lu with ⟨k,_⟩ | ⟨_,c,e,z⟩
            · rcases g2 with g | g
              · rw [k] at g; cases g
              · rw [k] at g; cases g
            · exact ⟨c,e,z⟩
          obtain ⟨c,hc1,hc2⟩:=lu'
          obtain ⟨c',hm⟩:=hcl2 _ (lookup_mem g3) rfl
          have hm':=hcl1 _ hm
          obtain ⟨c2,hl2⟩:=mem_lookup hm
          have:=lk _ _ hl2
          rw [hc1] at this; cases this
          obtain ⟨oc,ho,hdt⟩:=hc2
          refine .inr ⟨?_,c,by rw [← ey]; exact hl2,oc,old c oc ho,hdt⟩
          rw [← ey]
          exact lookup_relabel_free g3
    · obtain ⟨v,oc,ho,hdt⟩:=I2.cell y c (lk y c e)
      exact ⟨v,oc,old c oc ho,hdt⟩
  have hx':Y.env.scope.names.lookup x = some .local:=lookup_relabel_local hx
  have hx2':Y.env.scope.names.lookup x2 = some .local:=lookup_relabel_local hx2
  have fpD:∀ b ∈ fp,b ≠ D:=fun b hb z=>by
    obtain ⟨o,ho,_⟩:=T.obj _ _ st2 b hb
    rw [z,hD0] at ho; cases ho
  have stD:D ∉ frs X.stack:=fun hz=>by
    rcases List.mem_cons.mp (I2.stkSub D hz) with z | z
    · have:=I2.lt; rw [eD,← z] at this; exact absurd this (Nat.lt_irrefl _)
    · exact I2.nofs (by rw [eD]; exact Nat.le_refl _) z
  have cellD:∀ y c,cl.lookup y = some c→c ≠ D:=fun y c e z=>by
    obtain ⟨v,oc,ho,_⟩:=I2.cell y c (lk y c e)
    rw [z,hD0] at ho; cases ho
  have stat:∀ {H':Hp} {oD:Obj},(∀ b ∈ fp,H' b = none)→∀ b ∈ fp,FpOk Y [(D,oD)] H' b:=fun hn b hb=>by
    refine ⟨hn b hb,(yok.exf b hb).1,yok.exfs b hb,.inl hb,(yok.exf b hb).2,fun p hp z=>?_⟩
    have hp':p ∈ [(D,_)]:=hp
    rw [List.mem_singleton.mp hp'] at z
    exact fpD b hb z.symm
  obtain ⟨m0,w0⟩:=w0
  have loop:∀ s₃:Shared,s₃ = { s2 with heap:=h₁,toks:=s2.toks + ([]:List (Str × Value)).length }→
      codeAny (model X.prog X.w) X.A (.compLoop (.ListComp elt [⟨.Tuple [.Name x px,.Name x2 px2] kt ptg,iter,ifs,0⟩] scope pos) 0 (.ref it) (.ref D) (compEnvC scope cl C X.env)) (P (.ref D) C) s₃:=by
    rintro s₃ rfl
    refine compLoop_any (fun n s'=>∃ i ys its H',Inv Y [] τ H' s'∧tn i s'.heap∧(∀ b ∈ fp,H' b = none)∧H' D = none∧s'.heap.PlainList D (List.toArray its)∧Vals ys its∧W i n ys H') ?_ m0
      ⟨0,[],[],H2,yI,T.keep _ _ _ st2 (fun b _ o e=>old b o e),fun b hb=>(f2 b hb).1,HD,hacc,.nil,w0⟩
    rintro n s3 ⟨i,ys,its,H3,I3,st3,fr3,hD3,⟨n0,hoD⟩,rv3,w3⟩
    obtain ⟨hz,ht⟩:=turn i n ys H3 w3
    have I3':Inv Y [(D,{ cls:=.type "list",data:=.seq its.toArray n0 })] τ H3 s3:=I3.pins_of fun p hp=>by
      rw [List.mem_singleton.mp hp]
      exact ⟨hoD,hD3,hDC,stD,fun v z=>by cases z⟩
    rcases ht with ⟨stop,q⟩ | ⟨go,hz',step⟩
    · refine thn (T.done Y rfl rfl rfl hc i _ s3 τ H3 _ I3' (stat fr3) st3 stop) fun r s4 ⟨hr,I4⟩=>?_
      subst hr
      obtain ⟨m,hn,_⟩:=I4.loc
      exact hP D C H3 s4 ys its m (by rw [hC]; exact Nat.le_succ _) hD0 hC0 hDC hD3 I4.free hn ⟨n0,(I4.pin (D,_) (List.mem_append_right _ List.mem_cons_self)).1⟩ rv3 hz q I4.base I4.hok I4.bare I4.os
    · refine thn (T.item Y rfl rfl rfl hc i _ s3 τ H3 _ I3' (stat fr3) st3 go) fun r s4 ⟨u,hr,h4⟩=>?_
      subst hr
      refine thn h4 fun _ s5 ⟨x',H5,I5,r5,y5,st5,fr5⟩=>?_
      have I5':=I5.pinned (fp:=fp) (stat fr5) (T.obj _ _ st5)
      obtain ⟨pt,v0,v1,ex',hqt,step'⟩:=step x' H5 y5
      refine thn (pg_tup (X:=Y) (pos:=ptg) (k:=kt) (n:=2) hc (pgs_cons (pg_name (X:=Y) (i:=0) (pos:=px) hnd rfl (.inl hx') (.inr hx')) (pgs_cons (pg_name (X:=Y) (i:=1) (pos:=px2) hnd rfl (.inl hx2') (.inr hx2')) pgs_nil)) rfl rfl _ s5 τ H5 x' u (fun σ' H'=>σ' = some v0 :: some v1 :: compSt (fs.map (·.2)) σ∧H' = H5) I5' r5 ⟨pt,[v0,v1],ex',hqt,rfl,v0,[v1],rfl,v1,[],rfl,rfl,rfl,rfl⟩) fun _ s6 ⟨σ6,H6,I6,e6,e6'⟩=>?_
      subst e6 e6'
      have back:∀ {σ':St} {H':Hp} {s':Shared},Inv Y ([(D,{ cls:=.type "list",data:=.seq its.toArray n0 })] ++ pinsAt fp s5.heap) (some v0 :: some v1 :: compSt (fs.map (·.2)) σ) H' s'→
          Inv Y [] τ H' s'∧tn (i + 1) s'.heap∧(∀ b ∈ fp,H' b = none)∧H' D = none∧s'.heap.PlainList D its.toArray:=fun {σ' H' s'} J'=>by
        refine ⟨(J'.pins_of (pins':=[]) (fun p hp=>absurd hp (by simp))).weak rfl fun j v e=>?_,T.keep _ _ _ st5 fun b hb o e=>(J'.pin (b,o) (List.mem_append_right _ (List.mem_append_right _ (mem_pinsAt hb e)))).1,fun b hb=>?_,?_,n0,?_⟩
        · cases j with
          | zero=>cases e
          | succ j0=>
            cases j0 with
            | zero=>cases e
            | succ j=>exact e
        · obtain ⟨o,e,d⟩:=T.obj _ _ st5 b hb
          exact (J'.pin (b,o) (List.mem_append_right _ (List.mem_append_right _ (mem_pinsAt hb e)))).2.1
        · exact (J'.pin (D,_) (List.mem_append_right _ (List.mem_append_left _ List.mem_cons_self))).2.1
        · exact (J'.pin (D,_) (List.mem_append_right _ (List.mem_append_left _ List.mem_cons_self))).1
      refine thn ((hb cl C s2 H2 fp).1 _ s6 _ _ _ I6 step') fun ok s7 ⟨H7,I7,q7⟩=>?_
      cases ok with
      | false=>
        obtain ⟨m',hm,w7⟩:=q7
        obtain ⟨a1,a2,a3,a4,a5⟩:=back (σ':=τ) I7
        exact ⟨m',hm,i + 1,ys,its,H7,a1,a2,a3,a4,a5,rv3,w7⟩
      | true=>
        refine thn ((hb cl C s2 H2 fp).2 _ s7 _ _ _ I7 q7) fun y s8 ⟨yv,H8,I8,ry,m',hm,w8⟩=>?_
        obtain ⟨a1,a2,a3,a4,a5⟩:=back (σ':=τ) I8
        have hlen:=rv3.length
        refine wpAny_list_append_plain (hsz:=by rw [List.size_toArray,← hlen]; exact hz) a5 fun h' hl' hs'=>?_
        refine ⟨m',hm,i + 1,ys ++ [yv],its ++ [y],H8,a1.turned (t':=s8.toks) (it:=D) (fun b o hb e=>hs'.extBut b o hb e) a4 hDC (.inr (by show s2.heap.objs.size ≤ D; rw [eD]; exact Nat.le_refl _)) (fun y c e=>cellD y c e) (fun p hp=>absurd (show p ∈ ([]:List (Addr × Obj)) from hp) (by simp)),T.keep _ _ _ a2 fun b hb o e=>hs'.extBut b o (fpD b hb) e,a3,a4,by simpa using hl',rv3.append (.cons ry .nil),w8⟩
  exact codeAny_compStart_list (loop _ rfl) (T.self X.A 0 _ _ _ (T.keep _ _ _ st2 (fun b _ o e=>old b o e)) (loop _ rfl))
theorem pe_comp2 {elt iter:Expr} {x x2:Str} {px px2 ptg pos:Pos} {kt:Nat} {ifs:List Expr} {scope:Scope} (fs:List (Str × Nat)) {wi:TI} {tt:TT} {te:TE}
    (hc:X.calm = true) (hkind:scope.kind = .function) (hcell:∀ y ∈ scope.names,y.2 ≠ .cell) (hnames:∀ y ∈ scope.names,y.2 = .local→scope.names.lookup y.1 = some .local)
    (hfree:∀ y ∈ scope.names,y.2 = .free→X.env.kindOf y.1 = some .cell ∨ X.env.kindOf y.1 = some .free) (hx:scope.names.lookup x = some .local) (hx2:scope.names.lookup x2 = some .local)
    (hnd:(x :: x2 :: fs.map (·.1)).Nodup) (hfs:∀ f ∈ fs,X.N[f.2]? = some f.1∧(X.env.kindOf f.1 = some .cell ∨ X.env.kindOf f.1 = some .free)∧scope.names.lookup f.1 = some .free)
    (hi:PI X (.Tuple [.Name x px,.Name x2 px2] kt ptg) iter wi)
    (hb:∀ (cl:List (Str × Addr)) (C:Addr) (s₀:Shared) (H₀:Hp) (ex:List Addr),PTs (cxComp X scope cl C (x :: x2 :: fs.map (·.1)) s₀ H₀ ex) ifs tt∧PE (cxComp X scope cl C (x :: x2 :: fs.map (·.1)) s₀ H₀ ex) elt te)
    (hs:∀ x,foldedSetIterable iter X.env x = pure x:=by intro _; rfl) :
    PE X (.ListComp elt [⟨.Tuple [.Name x px,.Name x2 px2] kt ptg,iter,ifs,0⟩] scope pos) (tComp2 X.K wi (fs.map (·.2)) tt te):=by
  intro pins s σ H Q I h
  obtain ⟨cl,hclos,hcl1,hcl2⟩:=closureFor_ex (env:=X.env) (scope:=scope) fun y hy hk=>I.ok.has y.1 (hfree y hy hk)
  rw [eval_ListComp]
  refine wpAny_comprehension_free (use:=none) rfl hs hclos hkind hnames (thn (hi pins s σ H _ I h) fun v s1 h1=>thn h1 fun itv s2 h2=>?_)
  obtain ⟨it,fp,tn,J,H2,e,I2,T,st2,f2,W,w0,turn⟩:=h2
  subst e
  refine comp_block2 (pins:=pins) hc hkind hcell hx hx2 hnd hfs hb hcl1 hcl2 I2 T st2 f2 W (fun H ys=>∀ p,H p = none→Q (.ref p) (upd H p (.lst ys))) w0 turn ?_
  intro D C H' s' ys its m hCs hD hC hDC HD HC hn pl rv hz q u hok hg ho
  exact ⟨m,hn,fun h' hs'=>⟨.ref D,_,comp_after (tk:=s'.toks) I2 f2 hD hC hDC HD HC pl rv hz u hok hg ho hs',rfl,q D HD⟩⟩
theorem ps_comp2 {i:Nat} {y:Str} {py spos:Pos} {elt iter:Expr} {x x2:Str} {px px2 ptg pos:Pos} {kt:Nat} {ifs:List Expr} {scope:Scope} (fs:List (Str × Nat)) {wi:TI} {tt:TT} {te:TE}
    (hN:X.N.Nodup) (hy:X.N[i]? = some y) (hyl:X.env.scope.names.lookup y = some .local)
    (hc:X.calm = true) (hkind:scope.kind = .function) (hcell:∀ y ∈ scope.names,y.2 ≠ .cell) (hnames:∀ y ∈ scope.names,y.2 = .local→scope.names.lookup y.1 = some .local)
    (hfree:∀ y ∈ scope.names,y.2 = .free→X.env.kindOf y.1 = some .cell ∨ X.env.kindOf y.1 = some .free) (hx:scope.names.lookup x = some .local) (hx2:scope.names.lookup x2 = some .local)
    (hnd:(x :: x2 :: fs.map (·.1)).Nodup) (hfs:∀ f ∈ fs,X.N[f.2]? = some f.1∧(X.env.kindOf f.1 = some .cell ∨ X.env.kindOf f.1 = some .free)∧scope.names.lookup f.1 = some .free)
    (hi:PI X (.Tuple [.Name x px,.Name x2 px2] kt ptg) iter wi)
    (hb:∀ (cl:List (Str × Addr)) (C:Addr) (s₀:Shared) (H₀:Hp) (ex:List Addr),PTs (cxComp X scope cl C (x :: x2 :: fs.map (·.1)) s₀ H₀ ex) ifs tt∧PE (cxComp X scope cl C (x :: x2 :: fs.map (·.1)) s₀ H₀ ex) elt te)
    (hsw:swapsWith (.ListComp elt [⟨.Tuple [.Name x px,.Name x2 px2] kt ptg,iter,ifs,0⟩] scope pos) (some (.Name y py)) spos.line X.env = pure true)
    (hs:∀ x,foldedSetIterable iter X.env x = pure x:=by intro _; rfl) :
    PS X (.Assign [.Name y py] (.ListComp elt [⟨.Tuple [.Name x px,.Name x2 px2] kt ptg,iter,ifs,0⟩] scope pos) spos) (tCompSet2 X.K i wi (fs.map (·.2)) tt te):=by
  intro pins s σ H D' I h
  obtain ⟨cl,hclos,hcl1,hcl2⟩:=closureFor_ex (env:=X.env) (scope:=scope) fun y hy hk=>I.ok.has y.1 (hfree y hy hk)
  rw [exec_Assign_Name_used _ _ _ _ hsw]
  refine wpAny_bind (wpAny_standAt (wpAny_bind ?_))
  show wpAny _ X.A (do let _ ← comprehension (.ListComp elt [⟨.Tuple [.Name x px,.Name x2 px2] kt ptg,iter,ifs,0⟩] scope pos) scope X.env _ (newList []) false (eval iter X.env) (some (assign (.Name y py) X.env))) _ _ s
  refine wpAny_bind (wpAny_mono (wpAny_comprehension_free (use:=some (assign (.Name y py) X.env)) (Q:=fun _ s'=>SP X pins D' .next s') rfl hs hclos hkind hnames
    (thn (hi pins s σ H _ I h) fun v s1 h1=>thn h1 fun itv s2 h2=>?_)) (fun _ s' hq=>wpAny_pure (wpAny_pure hq)) fun _ _ e=>e)
  obtain ⟨it,fp,tn,J,H2,e,I2,T,st2,f2,W,w0,turn⟩:=h2
  subst e
  refine comp_block2 (pins:=pins) hc hkind hcell hx hx2 hnd hfs hb hcl1 hcl2 I2 T st2 f2 W (fun H ys=>∀ p,H p = none→D'.nx (σ.set i (some (.ref p))) (upd H p (.lst ys))) w0 turn ?_
  intro D C H' s' ys its m hCs hD hC hDC HD HC hn pl rv hz q u hok hg ho
  show wpAny _ X.A (assign (.Name y py) X.env (.ref D)) _ _ _
  -- store,with the block's frame still there
  have J:=comp_after (tk:=s'.toks) I2 f2 hD hC hDC HD HC pl rv hz u hok hg ho (Heap.SameBut.refl C s'.heap)
  refine wpAny_assign_Name (store_ok2 J hN hy (.inl hyl) (v:=.ref D) (u:=.ref D) rfl (fun s3 J3 ⟨a,sb,ha⟩=>?_) (.inr hyl))
  have exL:∃ o,s2.heap.get? X.env.locals = some o:=let ⟨_,⟨o,_,_,e,_⟩,_⟩:=I2.loc; ⟨o,e⟩
  have cellC:∀ z c,X.env.cells.lookup z = some c→c ≠ C:=fun z c e q=>by
    obtain ⟨v,oc,ho,_⟩:=I2.cell z c e
    rw [q,hC] at ho; cases ho
  have aC:a ≠ C:=by
    rcases ha with z | z
    · obtain ⟨o,e⟩:=exL
      intro q
      rw [← z,q,hC] at e; cases e
    · exact cellC y a z
  have LC:C ≠ X.env.locals:=fun q=>by
    obtain ⟨o,e⟩:=exL
    rw [← q,hC] at e; cases e
  refine ⟨m,hn.sameBut sb (Ne.symm aC),fun h' hs'=>?_⟩
  exact ⟨_,_,J3.turned (t':=s3.toks) (it:=C) (fun b o hb e=>hs'.extBut b o hb e) (by rw [upd_ne (Ne.symm hDC)]; exact HC) LC (.inr (Nat.le_trans I2.sz hCs)) cellC (fun p hp z=>by
    have:=(I2.pin p hp).1
    rw [z,hC] at this; cases this),q D HD⟩
end
section
variable {X:Cx} {iter:Expr} {x x2:Str} {px px2 ptg pos:Pos} {kt:Nat}
def compLook2 (names:List (Str × NameKind)) (outer:List (Str × NameKind)) (N:List Str) (x x2:Str) (fs:List (Str × Nat)):Bool:=
  compLook names outer N x fs && (names.lookup x2 == some .local) && decide ((x :: x2 :: fs.map (·.1)).Nodup)
theorem ke_comp2 {elt:Expr} {ifs:List Expr} {scope:Scope} (fs:List (Str × Nat)) {wi:TI} {tt:TT} {te:TE}
    (hi:QI X (.Tuple [.Name x px,.Name x2 px2] kt ptg) iter wi)
    (hb:∀ (cl:List (Str × Addr)) (C:Addr) (s₀:Shared) (H₀:Hp) (ex:List Addr),QTs (cxComp X scope cl C (x :: x2 :: fs.map (·.1)) s₀ H₀ ex) ifs tt∧QE (cxComp X scope cl C (x :: x2 :: fs.map (·.1)) s₀ H₀ ex) elt te)
    (hc:X.calm = true:=by kernel_rfl) (hk:scope.kind = .function:=by kernel_rfl) (hl:compLook2 scope.names X.env.scope.names X.N x x2 fs = true:=by kernel_rfl)
    (hs:∀ x,foldedSetIterable iter X.env x = pure x:=by intro _; kernel_rfl) :
    QE X (.ListComp elt [⟨.Tuple [.Name x px,.Name x2 px2] kt ptg,iter,ifs,0⟩] scope pos) (tComp2 X.K wi (fs.map (·.2)) tt te):=by
  unfold compLook2 at hl
  simp only [Bool.and_eq_true,beq_iff_eq,decide_eq_true_eq] at hl
  have O:=compOk_of (X:=X) hk hl.1.1
  exact ⟨pe_comp2 fs hc O.kind O.cell O.names O.free O.hx hl.1.2 hl.2 O.fs hi.p (fun cl C s₀ H₀ ex=>⟨(hb cl C s₀ H₀ ex).1.p,(hb cl C s₀ H₀ ex).2.p⟩) hs⟩
theorem ks_comp2 {i:Nat} {y:Str} {py spos:Pos} {elt:Expr} {ifs:List Expr} {scope:Scope} (fs:List (Str × Nat)) {wi:TI} {tt:TT} {te:TE}
    (hN:X.N.Nodup) (hi:QI X (.Tuple [.Name x px,.Name x2 px2] kt ptg) iter wi)
    (hb:∀ (cl:List (Str × Addr)) (C:Addr) (s₀:Shared) (H₀:Hp) (ex:List Addr),QTs (cxComp X scope cl C (x :: x2 :: fs.map (·.1)) s₀ H₀ ex) ifs tt∧QE (cxComp X scope cl C (x :: x2 :: fs.map (·.1)) s₀ H₀ ex) elt te)
    (hy:X.N[i]? = some y:=by kernel_rfl) (hyl:X.env.scope.names.lookup y = some .local:=by kernel_rfl) (hc:X.calm = true:=by kernel_rfl)
    (hk:scope.kind = .function:=by kernel_rfl) (hl:compLook2 scope.names X.env.scope.names X.N x x2 fs = true:=by kernel_rfl)
    (hsw:swapsWith (.ListComp elt [⟨.Tuple [.Name x px,.Name x2 px2] kt ptg,iter,ifs,0⟩] scope pos) (some (.Name y py)) spos.line X.env = pure true:=by kernel_rfl)
    (hs:∀ x,foldedSetIterable iter X.env x = pure x:=by intro _; kernel_rfl) :
    QS X (.Assign [.Name y py] (.ListComp elt [⟨.Tuple [.Name x px,.Name x2 px2] kt ptg,iter,ifs,0⟩] scope pos) spos) (tCompSet2 X.K i wi (fs.map (·.2)) tt te):=by
  unfold compLook2 at hl
  simp only [Bool.and_eq_true,beq_iff_eq,decide_eq_true_eq] at hl
  have O:=compOk_of (X:=X) hk hl.1.1
  exact ⟨ps_comp2 fs hN hy hyl hc O.kind O.cell O.names O.free O.hx hl.1.2 hl.2 O.fs hi.p (fun cl C s₀ H₀ ex=>⟨(hb cl C s₀ H₀ ex).1.p,(hb cl C s₀ H₀ ex).2.p⟩) hsw hs⟩
end
theorem comp2_l {K:PySem.W.Frag} {tl:TE} {a:Addr} {xs:List V} {σ:St} {fs:List Nat} {tt:TT} {te:TE} {H:Hp} {Q:VK} (ha:∀ Q:VK,Q (.ref a) H→tl σ H Q) (hq:SqL K H a xs) (Pv:Nat→List V→Hp→Prop) (h0:Pv 0 [] H) (hl:∀ i ys H,i ≤ xs.length→Pv i ys H→SqL K H a xs∧ys.length ≤ i) (hn:xs.length ≤ sizeLine)
    (hs:∀ i x ys H,xs[i]? = some x→Pv i ys H→∃ p v0 v1,x = .ref p∧SqT K H p [v0,v1]∧∀ R:List V→Hp→Prop,(∀ ys' H',Pv (i + 1) ys' H'→R ys' H')→tt (some v0 :: some v1 :: compSt fs σ) H fun b H2=>if b = true then te (some v0 :: some v1 :: compSt fs σ) H2 fun y H3=>R (ys ++ [y]) H3 else R ys H2)
    (hd:∀ ys H,Pv xs.length ys H→∀ p,H p = none→Q (.ref p) (upd H p (.lst ys))):tComp2 K (iList K tl) fs tt te σ H Q:=by
  refine ha _ ⟨a,rfl,⟨xs,hq⟩,?_⟩
  refine ⟨fun i m ys H=>m = xs.length - i∧i ≤ xs.length∧Pv i ys H,⟨xs.length,by simp,Nat.zero_le _,h0⟩,?_⟩
  rintro i m ys H ⟨rfl,hi,p⟩
  obtain ⟨hq,hle⟩:=hl i ys H hi p
  refine ⟨by omega,?_⟩
  by_cases hlt:i < xs.length
  · refine .inr ⟨⟨xs,xs[i],hq,by simp [hlt]⟩,by omega,fun x H' y=>?_⟩
    obtain ⟨e,y⟩:=y
    subst e
    obtain ⟨pt,v0,v1,e,hqt,h⟩:=hs i x ys _ (y xs hq) p
    exact ⟨pt,v0,v1,e,hqt,h (fun ys' H'=>∃ m',m' < xs.length - i∧m' = xs.length - (i + 1)∧i + 1 ≤ xs.length∧Pv (i + 1) ys' H') fun ys' H' q=>⟨xs.length - (i + 1),by omega,rfl,hlt,q⟩⟩
  · have e:i = xs.length:=by omega
    subst e
    exact .inl ⟨⟨xs,hq,Nat.le_refl _⟩,hd ys H p⟩
end L2
namespace MaxD
open PySem PyProof.Rows
end MaxD
namespace L2
open PySem PySem.Spec PyProof.Rows
section
variable {X:Cx} {e o value d:Expr} {es:List Expr} {f x m:Str} {pos pos' p apos kp:Pos} {ta tv td:TE} {t:TA}
theorem ke_gint {n:Int} (hm:∃ t,X.mg x = some (.int n t)) (hg:X.env.kindOf x = some .globalImplicit:=by kernel_rfl) (hd:(x == ("__debug__":Str)) = false:=by kernel_rfl):QE X (.Name x pos) (tC (.int n)):=by
  obtain ⟨t,hm⟩:=hm
  exact ⟨pe_glob (v:=.int n) hg hm ⟨t,rfl⟩ hd⟩
variable {CX:CXT} {k:Nat} {g C:Addr} {fd:FuncData} {ps:List Str} {sp:Sp} {E:XK}
end
theorem ex1 {α:Type} {us:List α} (hl:us.length = 1):∃ a0,us = [a0]:=by
  match us,hl with
  | [_],_=>exact ⟨_,rfl⟩
theorem ex2 {α:Type} {us:List α} (hl:us.length = 2):∃ a0 a1,us = [a0,a1]:=by
  match us,hl with
  | [_,_],_=>exact ⟨_,_,rfl⟩
theorem ex3 {α:Type} {us:List α} (hl:us.length = 3):∃ a0 a1 a2,us = [a0,a1,a2]:=by
  match us,hl with
  | [_,_,_],_=>exact ⟨_,_,_,rfl⟩
theorem ex4 {α:Type} {us:List α} (hl:us.length = 4):∃ a0 a1 a2 a3,us = [a0,a1,a2,a3]:=by
  match us,hl with
  | [_,_,_,_],_=>exact ⟨_,_,_,_,rfl⟩
theorem ex5 {α:Type} {us:List α} (hl:us.length = 5):∃ a0 a1 a2 a3 a4,us = [a0,a1,a2,a3,a4]:=by
  match us,hl with
  | [_,_,_,_,_],_=>exact ⟨_,_,_,_,_,rfl⟩
theorem ex6 {α:Type} {us:List α} (hl:us.length = 6):∃ a0 a1 a2 a3 a4 a5,us = [a0,a1,a2,a3,a4,a5]:=by
  match us,hl with
  | [_,_,_,_,_,_],_=>exact ⟨_,_,_,_,_,_,rfl⟩
theorem ex7 {α:Type} {us:List α} (hl:us.length = 7):∃ a0 a1 a2 a3 a4 a5 a6,us = [a0,a1,a2,a3,a4,a5,a6]:=by
  match us,hl with
  | [_,_,_,_,_,_,_],_=>exact ⟨_,_,_,_,_,_,_,rfl⟩
end L2
namespace MM
def val (K:Nat):List Nat→Nat→Nat
  | _,0=>0
  | [],_ + 1=>0
  | c :: m,n + 1=>(c - 97) * K ^ n + val K m n
def Ls (K:Nat) (m:List Nat):Prop:=∀ c ∈ m,97 ≤ c∧c < 97 + K
def Na (m:List Nat):Prop:=∀ c,m.getLast? = some c→c ≠ 97
structure Mark (K:Nat) (m:List Nat):Prop where
  ls:Ls K m
  na:Na m
  ne:m ≠ []
theorem Ls.tail {K c:Nat} {m:List Nat} (h:Ls K (c :: m)):Ls K m:=fun x hx=>h x (List.mem_cons_of_mem _ hx)
theorem Ls.head {K c:Nat} {m:List Nat} (h:Ls K (c :: m)):97 ≤ c∧c < 97 + K:=h c List.mem_cons_self
theorem Ls.nil (K:Nat):Ls K []:=fun _ h=>nomatch h
theorem Ls.app {K:Nat} {a b:List Nat} (h:Ls K a) (h':Ls K b):Ls K (a ++ b):=fun c hc=>(List.mem_append.mp hc).elim (h c) (h' c)
theorem Ls.mono {K L:Nat} {m:List Nat} (h:Ls K m) (hl:K ≤ L):Ls L m:=fun c hc=>⟨(h c hc).1,by have:=(h c hc).2; omega⟩
theorem Na.tail {c:Nat} {m:List Nat} (h:Na (c :: m)):Na m:=fun x hx=>by
  cases m with
  | nil=>simp at hx
  | cons d r=>exact h x (by rw [List.getLast?_cons_cons]; exact hx)
theorem Na.app {a b:List Nat} (h:Na b) (hb:b ≠ []):Na (a ++ b):=fun c hc=>by
  rw [List.getLast?_append] at hc
  cases e:b.getLast? with
  | none=>exact absurd (List.getLast?_eq_none_iff.mp e) hb
  | some d=>rw [e] at hc; exact h c (by rw [e]; exact hc)
theorem Na.one {c:Nat} (h:c ≠ 97):Na [c]:=fun d hd=>by simp at hd; omega
theorem val_zero (K:Nat) (m:List Nat):val K m 0 = 0:=by cases m <;> rfl
theorem val_nil (K n:Nat):val K [] n = 0:=by cases n <;> rfl
theorem val_cons (K c n:Nat) (m:List Nat):val K (c :: m) (n + 1) = (c - 97) * K ^ n + val K m n:=rfl
theorem val_lt {K:Nat} (hK:0 < K):∀ {m:List Nat} (n:Nat),Ls K m→val K m n < K ^ n
  | m,0,_=>by rw [val_zero]; exact Nat.one_pos
  | [],n + 1,_=>by rw [val_nil]; exact Nat.pow_pos hK
  | c :: m,n + 1,h=>by
    have ih:=val_lt hK n h.tail
    have hc:=h.head
    rw [val_cons,Nat.pow_succ]
    have h1:(c - 97) * K ^ n + K ^ n ≤ K ^ n * K:=by
      have:(c - 97 + 1) * K ^ n ≤ K * K ^ n:=Nat.mul_le_mul_right _ (by omega)
      rw [Nat.add_mul,Nat.one_mul,Nat.mul_comm K] at this
      exact this
    omega
theorem val_pos {K:Nat} (hK:0 < K):∀ {m:List Nat} (n:Nat),Ls K m→Na m→m ≠ []→m.length ≤ n→0 < val K m n
  | [],_,_,_,h,_=>absurd rfl h
  | c :: m,0,_,_,_,h=>by simp at h
  | [c],n + 1,h,hn,_,_=>by
    have h1:=h.head
    have h2:=hn c (by simp)
    rw [val_cons,val_nil]
    have:0 < (c - 97) * K ^ n:=Nat.mul_pos (by omega) (Nat.pow_pos hK)
    omega
  | c :: d :: m,n + 1,h,hn,_,hl=>by
    have:=val_pos hK n h.tail hn.tail (List.cons_ne_nil _ _) (by simpa using hl)
    rw [val_cons]; omega
theorem lt_parts {a b x y P:Nat} (hx:x < P) (hy:y < P):a * P + x < b * P + y ↔ a < b ∨ a = b∧x < y:=by
  constructor
  · intro h
    rcases Nat.lt_trichotomy a b with g | g | g
    · exact .inl g
    · subst g; exact .inr ⟨rfl,by omega⟩
    · have:(b + 1) * P ≤ a * P:=Nat.mul_le_mul_right _ g
      rw [Nat.add_mul] at this; omega
  · rintro (g | ⟨rfl,g⟩)
    · have:(a + 1) * P ≤ b * P:=Nat.mul_le_mul_right _ g
      rw [Nat.add_mul] at this; omega
    · omega
theorem eq_parts {a b x y P:Nat} (hx:x < P) (hy:y < P):a * P + x = b * P + y ↔ a = b∧x = y:=by
  constructor
  · intro h
    rcases Nat.lt_trichotomy a b with g | g | g
    · have:(a + 1) * P ≤ b * P:=Nat.mul_le_mul_right _ g
      rw [Nat.add_mul] at this; omega
    · subst g; exact ⟨rfl,by omega⟩
    · have:(b + 1) * P ≤ a * P:=Nat.mul_le_mul_right _ g
      rw [Nat.add_mul] at this; omega
  · rintro ⟨rfl,rfl⟩; rfl
theorem sub97 {c d:Nat} (hc:97 ≤ c) (hd:97 ≤ d):(c - 97 < d - 97 ↔ c < d)∧(c - 97 = d - 97 ↔ c = d):=⟨by omega,by omega⟩
theorem lt_val {K:Nat} (hK:0 < K):∀ {a b:List Nat} (n:Nat),Ls K a→Ls K b→Na a→Na b→a.length ≤ n→b.length ≤ n→(a < b ↔ val K a n < val K b n)
  | [],[],n,_,_,_,_,_,_=>by rw [val_nil]; simp
  | [],c :: b,n,_,hb,_,nb,_,lb=>by
    rw [val_nil]
    have:=val_pos hK n hb nb (List.cons_ne_nil _ _) lb
    simp [this]
  | c :: a,[],n,_,_,_,_,_,_=>by rw [val_nil]; simp
  | c :: a,d :: b,0,_,_,_,_,la,_=>by simp at la
  | c :: a,d :: b,n + 1,ha,hb,na,nb,la,lb=>by
    have ih:=lt_val hK n ha.tail hb.tail na.tail nb.tail (by simpa using la) (by simpa using lb)
    rw [List.cons_lt_cons_iff,val_cons,val_cons,lt_parts (val_lt hK n ha.tail) (val_lt hK n hb.tail),(sub97 ha.head.1 hb.head.1).1,(sub97 ha.head.1 hb.head.1).2,ih]
theorem low_val {K:Nat} (hK:0 < K):∀ {l x:List Nat} (n:Nat),Ls K l→Ls K x→Na x→x.length = n→(l < x ↔ val K l n < val K x n)
  | l,[],n,_,_,_,e=>by
    obtain rfl:n = 0:=by simpa using e.symm
    rw [val_zero,val_zero]; simp
  | [],c :: x,n,_,hx,nx,e=>by
    rw [val_nil]
    have:=val_pos hK n hx nx (List.cons_ne_nil _ _) (Nat.le_of_eq e)
    simp [this]
  | d :: l,c :: x,0,_,_,_,e=>by simp at e
  | d :: l,c :: x,n + 1,hl,hx,nx,e=>by
    have ih:=low_val hK n hl.tail hx.tail nx.tail (by simpa using e)
    rw [List.cons_lt_cons_iff,val_cons,val_cons,lt_parts (val_lt hK n hl.tail) (val_lt hK n hx.tail),(sub97 hl.head.1 hx.head.1).1,(sub97 hl.head.1 hx.head.1).2,ih]
def fig (m:List Nat) (i:Nat):Nat:=match m[i]? with | some c=>c - 97 | none=>0
theorem val_succ (K:Nat):∀ (m:List Nat) (n:Nat),val K m (n + 1) = val K m n * K + fig m n
  | [],n=>by rw [val_nil,val_nil]; simp [fig]
  | c :: m,0=>by rw [val_cons,val_zero,val_zero]; simp [fig]
  | c :: m,n + 1=>by
    have ih:=val_succ K m n
    rw [val_cons,ih,val_cons,Nat.pow_succ,Nat.add_mul,Nat.mul_assoc,← Nat.add_assoc]
    simp [fig]
def low (K r:Nat):Nat→List Nat
  | 0=>[]
  | n + 1=>(97 + r / K ^ n % K) :: low K r n
theorem low_length (K r:Nat):∀ n,(low K r n).length = n
  | 0=>rfl
  | n + 1=>by rw [low,List.length_cons,low_length K r n]
theorem low_ls {K:Nat} (hK:0 < K) (r:Nat):∀ n,Ls K (low K r n)
  | 0=>Ls.nil K
  | n + 1=>fun c hc=>by
    rcases List.mem_cons.mp hc with rfl | hc
    · have:=Nat.mod_lt (r / K ^ n) hK; omega
    · exact low_ls hK r n c hc
theorem low_val_eq {K:Nat} (hK:0 < K) (r:Nat):∀ n,val K (low K r n) n = r % K ^ n
  | 0=>by rw [val_zero,Nat.pow_zero,Nat.mod_one]
  | n + 1=>by
    rw [low,val_cons,low_val_eq hK r n,Nat.pow_succ,Nat.mod_mul,Nat.add_comm,Nat.mul_comm,Nat.add_sub_cancel_left]
def cutA (m:List Nat):List Nat:=(m.reverse.dropWhile (fun c=>[97].contains c)).reverse
theorem cutA_na {m:List Nat} (h:Na m):cutA m = m:=by
  unfold cutA
  cases e:m.reverse with
  | nil=>rw [List.dropWhile_nil,← e,List.reverse_reverse]
  | cons c r=>
    have hc:c ≠ 97:=h c (by rw [List.getLast?_eq_head?_reverse,e]; rfl)
    rw [List.dropWhile_cons_of_neg (by simp [hc]),← e,List.reverse_reverse]
theorem val_inj {K:Nat} (hK:0 < K):∀ {a b:List Nat} (n:Nat),Ls K a→Ls K b→Na a→Na b→a.length ≤ n→b.length ≤ n→val K a n = val K b n→a = b
  | [],[],_,_,_,_,_,_,_,_=>rfl
  | [],d :: b,n,_,hb,_,nb,_,lb,e=>by
    have:=val_pos hK n hb nb (List.cons_ne_nil _ _) lb
    rw [val_nil] at e; omega
  | c :: a,[],n,ha,_,na,_,la,_,e=>by
    have:=val_pos hK n ha na (List.cons_ne_nil _ _) la
    rw [val_nil] at e; omega
  | c :: a,d :: b,0,_,_,_,_,la,_,_=>by simp at la
  | c :: a,d :: b,n + 1,ha,hb,na,nb,la,lb,e=>by
    rw [val_cons,val_cons,eq_parts (val_lt hK n ha.tail) (val_lt hK n hb.tail),(sub97 ha.head.1 hb.head.1).2] at e
    rw [e.1,val_inj hK n ha.tail hb.tail na.tail nb.tail (by simpa using la) (by simpa using lb) e.2]
def mk (K r n:Nat):List Nat:=cutA (low K r n)
end MM
namespace MM
def endsL (K h j:Nat):List Nat:=((List.range (K - 1)).filter (fun i=>decide (i % h = j))).map (98 + ·)
def endsFrom (K h j n:Nat):List Nat:=((List.range' (n - 1) (K - n)).filter (fun i=>decide (i % h = j))).map (98 + ·)
theorem endsFrom_one (K h j:Nat):endsFrom K h j 1 = endsL K h j:=by
  unfold endsFrom endsL
  rw [List.range_eq_range']
theorem endsFrom_stop {K h j n:Nat} (hn:K ≤ n):endsFrom K h j n = []:=by
  unfold endsFrom
  have:K - n = 0:=by omega
  rw [this]; rfl
theorem endsFrom_skip {K h j n:Nat} (h1:1 ≤ n) (hK:n < K) (hne:(n - 1) % h ≠ j):endsFrom K h j n = endsFrom K h j (n + 1):=by
  unfold endsFrom
  obtain ⟨d,hd⟩:∃ d,K - n = d + 1:=⟨K - n - 1,by omega⟩
  have e2:K - (n + 1) = d:=by omega
  have e3:n + 1 - 1 = n - 1 + 1:=by omega
  rw [hd,e2,e3,List.range'_succ,List.filter_cons]
  simp [hne]
theorem endsFrom_take {K h j n:Nat} (h1:1 ≤ n) (hK:n < K) (he:(n - 1) % h = j):endsFrom K h j n = (97 + n) :: endsFrom K h j (n + 1):=by
  unfold endsFrom
  obtain ⟨d,hd⟩:∃ d,K - n = d + 1:=⟨K - n - 1,by omega⟩
  have e2:K - (n + 1) = d:=by omega
  have e3:n + 1 - 1 = n - 1 + 1:=by omega
  rw [hd,e2,e3,List.range'_succ,List.filter_cons]
  simp [he]; omega
theorem endsFrom_skips {K h j:Nat}:∀ (m n:Nat),1 ≤ n→(∀ i,i < m→(n - 1 + i) % h ≠ j)→endsFrom K h j n = endsFrom K h j (n + m)
  | 0,n,_,_=>rfl
  | m + 1,n,h1,hne=>by
    by_cases hK:n < K
    · rw [endsFrom_skip h1 hK (by have:=hne 0 (by omega); simpa using this),endsFrom_skips m (n + 1) (by omega) (fun i hi=>by have:=hne (i + 1) (by omega); rwa [show n - 1 + (i + 1) = n + 1 - 1 + i by omega] at this)]
      congr 1; omega
    · rw [endsFrom_stop (by omega),endsFrom_stop (by omega)]
theorem mod_add_ne {a h i:Nat} (hi:0 < i) (hh:i < h):(a + i) % h ≠ a % h:=by
  intro e
  have h0:0 < h:=by omega
  have e1:=Nat.div_add_mod a h
  have e2:=Nat.div_add_mod (a + i) h
  rw [e] at e2
  have e3:h * ((a + i) / h) = h * (a / h) + i:=by omega
  rcases Nat.lt_or_ge (a / h) ((a + i) / h) with hl | hl
  · have:h * (a / h + 1) ≤ h * ((a + i) / h):=Nat.mul_le_mul_left h hl
    rw [Nat.mul_add] at this; omega
  · have:h * ((a + i) / h) ≤ h * (a / h):=Nat.mul_le_mul_left h hl
    omega
theorem endsFrom_step {K h j n:Nat} (h0:0 < h) (h1:1 ≤ n) (hK:n < K) (he:(n - 1) % h = j):endsFrom K h j n = (97 + n) :: endsFrom K h j (n + h):=by
  rw [endsFrom_take h1 hK he,endsFrom_skips (h - 1) (n + 1) (by omega) (fun i hi=>by
    have:=mod_add_ne (a:=n - 1) (h:=h) (i:=i + 1) (by omega) (by omega)
    rw [he] at this
    rwa [show n + 1 - 1 + i = n - 1 + (i + 1) by omega])]
  congr 2; omega
theorem endsFrom_start {K h j:Nat} (hj:j < h):endsFrom K h j (1 + j) = endsL K h j:=by
  rw [← endsFrom_one,Nat.add_comm 1 j,Nat.add_comm j 1]
  exact (endsFrom_skips j 1 (by omega) (fun i hi=>by
    show (0 + i) % h ≠ j
    rw [Nat.zero_add,Nat.mod_eq_of_lt (by omega)]; omega)).symm
theorem endsL_ne {K h j:Nat} (hj:j < h) (hh:h + 1 ≤ K):endsL K h j ≠ []:=by
  rw [← endsFrom_start hj,endsFrom_step (by omega) (by omega) (by omega) (by rw [Nat.add_comm,Nat.add_sub_cancel]; exact Nat.mod_eq_of_lt hj)]
  exact List.cons_ne_nil _ _
theorem endsL_mem {K h j c:Nat}:c ∈ endsL K h j ↔ ∃ i,i < K - 1∧i % h = j∧c = 98 + i:=by
  unfold endsL
  simp only [List.mem_map,List.mem_filter,List.mem_range,decide_eq_true_eq]
  constructor
  · rintro ⟨a,⟨h1,h2⟩,h3⟩; exact ⟨a,h1,h2,h3.symm⟩
  · rintro ⟨a,h1,h2,h3⟩; exact ⟨a,⟨h1,h2⟩,h3.symm⟩
end MM
namespace MM
structure Ends (L:Nat) (es:List Nat):Prop where
  up:es.Pairwise (· < ·)
  lo:∀ e ∈ es,98 ≤ e
  hi:∀ e ∈ es,e < 97 + L
  ne:es ≠ []
def cnt (es:List Nat) (x:Nat):Nat:=(es.filter (fun e=>decide (e < x))).length
def ob (L:Nat) (es:List Nat) (N:Nat):Nat:=N / L * es.length + cnt es (97 + N % L)
def ow (L:Nat) (es:List Nat) (w:Nat):Bool:=decide (97 + w % L ∈ es)
def nth (L:Nat) (es:List Nat) (p:Nat):Nat:=p / es.length * L + (es.getD (p % es.length) 0 - 97)
theorem cnt_succ {es:List Nat} (h:es.Pairwise (· < ·)) (x:Nat):cnt es (x + 1) = cnt es x + (if x ∈ es then 1 else 0):=by
  induction es with
  | nil=>rfl
  | cons e r ih=>
    obtain ⟨h1,h2⟩:=List.pairwise_cons.mp h
    have ih:=ih h2
    unfold cnt at ih ⊢
    rw [List.filter_cons,List.filter_cons]
    by_cases a:e < x
    · have m : x ∈ e :: r ↔ x ∈ r := by rw [List.mem_cons]; constructor
                                        · rintro (rfl | z)
                                          · omega
                                          · exact z
                                        · exact .inr
      rw [if_pos (by simp; omega),if_pos (by simpa using a),List.length_cons,List.length_cons,ih]
      simp only [m]; omega
    · by_cases b:e = x
      · subst b
        rw [if_pos (by simp),if_neg (by simp)]
        have no:e ∉ r:=fun z=>by have:=h1 e z; omega
        rw [if_neg no] at ih
        rw [List.length_cons,ih,if_pos List.mem_cons_self]
      · have no:x ∉ r:=fun z=>by have:=h1 x z; omega
        rw [if_neg (by simp; omega),if_neg (by simpa using a),ih,if_neg no,if_neg (by rw [List.mem_cons]; rintro (z | z); omega; exact no z)]
theorem cnt_low {es:List Nat} (h:∀ e ∈ es,98 ≤ e):cnt es 97 = 0:=by
  unfold cnt
  rw [List.length_eq_zero_iff,List.filter_eq_nil_iff]
  intro e he; have:=h e he; simp only [decide_eq_true_eq]; omega
theorem cnt_all {es:List Nat} {x:Nat} (h:∀ e ∈ es,e < x):cnt es x = es.length:=by
  unfold cnt
  rw [List.filter_eq_self.mpr (fun e he=>by simpa using h e he)]
theorem ob_succ {L:Nat} {es:List Nat} (hL:0 < L) (E:Ends L es) (w:Nat):ob L es (w + 1) = ob L es w + (if ow L es w = true then 1 else 0):=by
  unfold ob ow
  have hm:=Nat.mod_lt w hL
  simp only [decide_eq_true_eq]
  by_cases h:w % L + 1 < L
  · have e1:(w + 1) / L = w / L:=by rw [Nat.add_div hL]; have:1 % L = 1:=Nat.mod_eq_of_lt (by omega); rw [this,Nat.div_eq_of_lt (show 1 < L by omega),if_neg (by omega)]; rfl
    have e2:(w + 1) % L = w % L + 1:=by rw [Nat.add_mod,Nat.mod_eq_of_lt (show 1 < L by omega)]; exact Nat.mod_eq_of_lt h
    rw [e1,e2,show 97 + (w % L + 1) = 97 + w % L + 1 by omega,cnt_succ E.up,Nat.add_assoc]
  · have hl:w % L + 1 = L:=by omega
    have hd:=Nat.div_add_mod w L
    have e0:w + 1 = L * (w / L + 1):=by rw [Nat.mul_add]; omega
    have e1:(w + 1) / L = w / L + 1:=by rw [e0,Nat.mul_div_cancel_left _ hL]
    have e2:(w + 1) % L = 0:=by rw [e0,Nat.mul_mod_right]
    have e3:=cnt_succ E.up (97 + w % L)
    rw [show 97 + w % L + 1 = 97 + L by omega,cnt_all E.hi] at e3
    rw [e1,e2,Nat.add_zero,cnt_low E.lo,Nat.add_mul,Nat.one_mul,e3]; omega
theorem cnt_at {es:List Nat} (h:es.Pairwise (· < ·)):∀ {r:Nat} {x:Nat},es[r]? = some x→cnt es x = r:=by
  induction es with
  | nil=>intro r x e; simp at e
  | cons e t ih=>
    intro r x hx
    obtain ⟨h1,h2⟩:=List.pairwise_cons.mp h
    cases r with
    | zero=>
      obtain rfl:e = x:=by simpa using hx
      unfold cnt
      rw [List.length_eq_zero_iff,List.filter_eq_nil_iff]
      intro y hy
      rcases List.mem_cons.mp hy with rfl | hy
      · simp
      · have:=h1 y hy; simp; omega
    | succ r=>
      have hx':t[r]? = some x:=by simpa using hx
      have:=h1 x (List.mem_of_getElem? hx')
      have i2:=ih h2 hx'
      unfold cnt at i2 ⊢
      rw [List.filter_cons_of_pos (by simpa using this),List.length_cons,i2]
theorem nth_ob {L:Nat} {es:List Nat} (hL:0 < L) (E:Ends L es) {w:Nat} (h:ow L es w = true):nth L es (ob L es w) = w:=by
  have hm:97 + w % L ∈ es:=of_decide_eq_true h
  obtain ⟨r,hr,e⟩:=List.getElem_of_mem hm
  have hx:es[r]? = some (97 + w % L):=by rw [List.getElem?_eq_getElem hr,e]
  have c:=cnt_at E.up hx
  unfold nth ob
  rw [c]
  have e1:(w / L * es.length + r) / es.length = w / L:=by rw [Nat.mul_comm,Nat.mul_add_div (by omega),Nat.div_eq_of_lt hr]; rfl
  have e2:(w / L * es.length + r) % es.length = r:=by rw [Nat.mul_comm,Nat.mul_add_mod,Nat.mod_eq_of_lt hr]
  rw [e1,e2,List.getD_eq_getElem?_getD,hx]
  have:=Nat.div_add_mod w L
  rw [Nat.mul_comm] at this
  simp only [Option.getD_some]; omega
theorem ob_mono {L:Nat} {es:List Nat} (hL:0 < L) (E:Ends L es) {a:Nat}:∀ {b:Nat},a ≤ b→ob L es a ≤ ob L es b
  | 0, h => by obtain rfl : a = 0 := by omega
               exact Nat.le_refl _
  | b + 1,h=>by
    by_cases e:a = b + 1
    · rw [e]; exact Nat.le_refl _
    · have:=ob_mono hL E (a:=a) (b:=b) (by omega)
      rw [ob_succ hL E]; omega
theorem seg {L:Nat} {es:List Nat} (hL:0 < L) (E:Ends L es) {a:Nat}:∀ {b:Nat},a ≤ b→(List.range' a (b - a)).filter (ow L es) = (List.range' (ob L es a) (ob L es b - ob L es a)).map (nth L es)
  | 0,h=>by
    obtain rfl:a = 0:=by omega
    simp
  | b + 1,h=>by
    by_cases e:a = b + 1
    · subst e; simp
    · have hab:a ≤ b:=by omega
      have ih:=seg hL E hab
      have hmon:=ob_mono hL E hab
      rw [show b + 1 - a = (b - a) + 1 by omega,List.range'_concat,List.filter_append,ih,Nat.one_mul,show a + (b - a) = b by omega]
      have os:=ob_succ hL E b
      by_cases hb:ow L es b = true
      · rw [if_pos hb] at os
        rw [List.filter_cons_of_pos hb,List.filter_nil,os,show ob L es b + 1 - ob L es a = (ob L es b - ob L es a) + 1 by omega,List.range'_concat,List.map_append,Nat.one_mul,show ob L es a + (ob L es b - ob L es a) = ob L es b by omega]
        simp only [List.map_cons,List.map_nil,nth_ob hL E hb]
      · rw [if_neg hb] at os
        rw [List.filter_cons_of_neg hb,List.filter_nil,List.append_nil,os,Nat.add_zero]
theorem ends_ok {K h j:Nat} (hj:j < h) (hh:h + 1 ≤ K):Ends K (endsL K h j) where
  up:=by
    unfold endsL
    rw [List.pairwise_map]
    refine List.Pairwise.imp ?_ ((List.pairwise_lt_range (n:=K - 1)).filter _)
    intro a b hab; omega
  lo:=fun e he=>by obtain ⟨i,_,_,rfl⟩:=endsL_mem.mp he; omega
  hi:=fun e he=>by obtain ⟨i,hi,_,rfl⟩:=endsL_mem.mp he; omega
  ne:=endsL_ne hj hh
theorem low_snoc {L:Nat} (hL:0 < L) {i:Nat} (hi:i < L) (q:Nat):∀ n,low L (q * L + i) (n + 1) = low L q n ++ [97 + i]
  | 0=>by
    show [97 + (q * L + i) / L ^ 0 % L] = [97 + i]
    rw [Nat.pow_zero,Nat.div_one,Nat.mul_comm,Nat.mul_add_mod,Nat.mod_eq_of_lt hi]
  | n + 1=>by
    rw [low,low_snoc hL hi q n,low,List.cons_append]
    congr 2
    rw [Nat.pow_succ,Nat.mul_comm (L ^ n),← Nat.div_div_eq_div_mul]
    congr 1
    have:(q * L + i) / L = q:=by rw [Nat.mul_comm,Nat.mul_add_div hL,Nat.div_eq_of_lt hi]; rfl
    rw [this]
theorem low_last {L w n:Nat} (hL:0 < L):(low L w (n + 1)).getLast? = some (97 + w % L):=by
  have hd:=Nat.div_add_mod w L
  have e:w = w / L * L + w % L:=by rw [Nat.mul_comm]; omega
  rw [e,low_snoc hL (Nat.mod_lt w hL)]
  simp [Nat.mod_eq_of_lt (Nat.mod_lt w hL)]
theorem mk_low {L w n:Nat} (hL:0 < L) (h:w % L ≠ 0):mk L w (n + 1) = low L w (n + 1):=by
  unfold mk
  refine cutA_na fun c hc=>?_
  rw [low_last hL] at hc
  have:=Option.some.inj hc; omega
end MM
namespace MM
theorem nth_mod {L:Nat} {es:List Nat} (E:Ends L es) (p:Nat):nth L es p % L ≠ 0:=by
  have hp:0 < es.length:=List.length_pos_iff.mpr E.ne
  have hm:=Nat.mod_lt p hp
  have hx:es[p % es.length]? = some es[p % es.length]:=List.getElem?_eq_getElem hm
  have h1:=E.lo _ (List.mem_of_getElem? hx)
  have h2:=E.hi _ (List.mem_of_getElem? hx)
  unfold nth
  rw [List.getD_eq_getElem?_getD,hx,Nat.mul_comm,Nat.mul_add_mod,Option.getD_some,Nat.mod_eq_of_lt (by omega)]
  omega
end MM
namespace MM
theorem ob_nth {L:Nat} {es:List Nat} (hL:0 < L) (E:Ends L es) (p:Nat):ob L es (nth L es p) = p∧ow L es (nth L es p) = true:=by
  have hp:0 < es.length:=List.length_pos_iff.mpr E.ne
  have hm:=Nat.mod_lt p hp
  have hx:es[p % es.length]? = some es[p % es.length]:=List.getElem?_eq_getElem hm
  have hmem:=List.mem_of_getElem? hx
  have h1:=E.lo _ hmem
  have h2:=E.hi _ hmem
  have hc:=cnt_at E.up hx
  generalize es[p % es.length] = e at *
  have e0:nth L es p = p / es.length * L + (e - 97):=by unfold nth; rw [List.getD_eq_getElem?_getD,hx]; rfl
  have e1:nth L es p / L = p / es.length:=by rw [e0,Nat.mul_comm,Nat.mul_add_div hL,Nat.div_eq_of_lt (show e - 97 < L by omega)]; rfl
  have e2:nth L es p % L = e - 97:=by rw [e0,Nat.mul_comm,Nat.mul_add_mod,Nat.mod_eq_of_lt (by omega)]
  constructor
  · unfold ob
    rw [e1,e2,show 97 + (e - 97) = e by omega,hc,Nat.mul_comm]
    exact Nat.div_add_mod p es.length
  · unfold ow
    rw [e2,show 97 + (e - 97) = e by omega]
    exact decide_eq_true hmem
theorem nth_in {L:Nat} {es:List Nat} (hL:0 < L) (E:Ends L es) {A B p:Nat} (h1:ob L es A ≤ p) (h2:p < ob L es B):A ≤ nth L es p∧nth L es p < B:=by
  obtain ⟨o1,o2⟩:=ob_nth hL E p
  constructor
  · by_cases z:A ≤ nth L es p
    · exact z
    · have:=ob_mono hL E (show nth L es p + 1 ≤ A by omega)
      rw [ob_succ hL E,if_pos o2,o1] at this
      omega
  · by_cases z:nth L es p < B
    · exact z
    · have:=ob_mono hL E (show B ≤ nth L es p by omega)
      omega
end MM
set_option maxHeartbeats 1000000
namespace L2
open PySem PySem.Spec PyProof.Rows
end L2
set_option maxHeartbeats 1000000
namespace L2
section
open PySem PySem.Spec PyProof.Rows Builtin Builtin.ObjectAttr Builtin.Getset_descriptor
end
open PySem PySem.Spec PyProof.Rows
end L2
set_option maxHeartbeats 1000000
namespace L2
open PySem PySem.Spec PyProof.Rows
section
variable {κ:Type} [DecidableEq κ]
def valV (kvs:List (κ × V)) (k:κ):Option V:=(kvs.find? fun kv=>decide (kv.1 = k)).map (·.2)
def putK (kvs:List (κ × V)) (k:κ) (v:V):List (κ × V):=
  if (kvs.any fun kv=>decide (kv.1 = k)) = true then kvs.map (fun kv=>if kv.1 = k then (kv.1,v) else kv) else kvs ++ [(k,v)]
theorem valV_nil {k:κ}:valV ([]:List (κ × V)) k = none:=rfl
theorem valV_pos {p:κ × V} {r:List (κ × V)} {k:κ} (e:p.1 = k):valV (p :: r) k = some p.2:=by simp [valV,List.find?_cons,e]
theorem valV_neg {p:κ × V} {r:List (κ × V)} {k:κ} (e:¬ p.1 = k):valV (p :: r) k = valV r k:=by simp [valV,List.find?_cons,e]
theorem valV_any (k:κ):∀ kvs:List (κ × V),(kvs.any fun kv=>decide (kv.1 = k)) = (valV kvs k).isSome
  | []=>rfl
  | p :: r=>by
    rw [List.any_cons]
    by_cases e:p.1 = k
    · simp only [valV_pos e,decide_eq_true e,Bool.true_or,Option.isSome_some]
    · rw [valV_neg e,decide_eq_false e,Bool.false_or]; exact valV_any k r
theorem valV_map (k j:κ) (y:V):∀ kvs:List (κ × V),valV (kvs.map fun kv=>if kv.1 = k then (kv.1,y) else kv) j = (valV kvs j).map fun x=>if j = k then y else x
  | []=>rfl
  | p :: r=>by
    have ih:=valV_map k j y r
    rw [List.map_cons]
    by_cases h:p.1 = k
    · rw [if_pos h]
      by_cases e:p.1 = j
      · rw [valV_pos (p:=(p.1,y)) e,valV_pos e,Option.map_some,if_pos (e.symm.trans h)]
      · rw [valV_neg (p:=(p.1,y)) e,valV_neg e,ih]
    · rw [if_neg h]
      by_cases e:p.1 = j
      · rw [valV_pos (p:=p) e,valV_pos e,Option.map_some,if_neg (fun z=>h (e.trans z))]
      · rw [valV_neg (p:=p) e,valV_neg e,ih]
theorem valV_snoc (k j:κ) (y:V):∀ kvs:List (κ × V),valV kvs k = none→valV (kvs ++ [(k,y)]) j = if j = k then some y else valV kvs j
  | [],_=>by
    by_cases e:k = j
    · rw [if_pos e.symm]; exact valV_pos (p:=(k,y)) e
    · rw [if_neg (fun z=>e z.symm)]; exact valV_neg (p:=(k,y)) e
  | p :: r,hn=>by
    rw [List.cons_append]
    have hk:¬ p.1 = k:=fun z=>by rw [valV_pos z] at hn; cases hn
    rw [valV_neg hk] at hn
    have ih:=valV_snoc k j y r hn
    by_cases e:p.1 = j
    · rw [valV_pos e,valV_pos e,if_neg (fun z=>hk (e.trans z))]
    · rw [valV_neg e,valV_neg e,ih]
theorem valV_put (kvs:List (κ × V)) (k j:κ) (y:V):valV (putK kvs k y) j = if j = k then some y else valV kvs j:=by
  unfold putK
  by_cases a:(kvs.any fun kv=>decide (kv.1 = k)) = true
  · rw [if_pos a,valV_map]
    rw [valV_any] at a
    by_cases e:j = k
    · obtain ⟨x,hx⟩:=Option.isSome_iff_exists.mp a
      rw [if_pos e,e,hx,Option.map_some,if_pos rfl]
    · rw [if_neg e]
      cases valV kvs j with
      | none=>rfl
      | some x=>rw [Option.map_some,if_neg e]
  · rw [if_neg a]
    refine valV_snoc k j y kvs ?_
    rw [valV_any] at a
    cases q:valV kvs k with
    | none=>rfl
    | some x=>rw [q] at a; exact (a rfl).elim
theorem length_putK (kvs:List (κ × V)) (k:κ) (v:V):(putK kvs k v).length ≤ kvs.length + 1:=by
  unfold putK
  split
  · rw [List.length_map]; omega
  · rw [List.length_append,List.length_cons,List.length_nil]; omega
theorem putK_new {kvs:List (κ × V)} {k:κ} (v:V) (h:valV kvs k = none):putK kvs k v = kvs ++ [(k,v)]:=by
  unfold putK
  rw [valV_any,h]
  exact if_neg (by decide)
theorem RelO.isSome_eq {o:Option V} {u:Option Value} (r:RelO o u):o.isSome = u.isSome:=by
  cases o with
  | none=>cases u with
    | none=>rfl
    | some _=>exact (show False from r).elim
  | some _=>cases u with
    | none=>exact (show False from r).elim
    | some _=>rfl
theorem RelO.getD {o:Option V} {u:Option Value} {d:V} {d':Value} (r:RelO o u) (rd:RelV d d'):RelV (o.getD d) (u.getD d'):=by
  cases o with
  | none=>cases u with
    | none=>exact rd
    | some _=>exact (show False from r).elim
  | some _=>cases u with
    | none=>exact (show False from r).elim
    | some _=>exact r
theorem KV.val {kvs:List (κ × V)} {vs:List (κ × Value)} (r:KV kvs vs) (k:κ):RelO (valV kvs k) (valueAt vs k):=by
  unfold KV at r
  induction r with
  | nil=>exact True.intro
  | @cons p q ps qs h t ih=>
    obtain ⟨h1,h2⟩:=h
    by_cases e:p.1 = k
    · have e':q.1 = k:=h1.symm.trans e
      have b:valueAt (q :: qs) k = some q.2:=by simp [valueAt,List.find?_cons,e']
      rw [valV_pos e,b]; exact h2
    · have e':¬ q.1 = k:=fun z=>e (h1.trans z)
      have b:valueAt (q :: qs) k = valueAt qs k:=by simp [valueAt,List.find?_cons,e']
      rw [valV_neg e,b]; exact ih
theorem KV.any {kvs:List (κ × V)} {vs:List (κ × Value)} (r:KV kvs vs) (k:κ):(kvs.any fun kv=>decide (kv.1 = k)) = vs.any fun kv=>decide (kv.1 = k):=by
  unfold KV at r
  induction r with
  | nil=>rfl
  | cons h t ih=>rw [List.any_cons,List.any_cons,ih,h.1]
theorem KV.repl {kvs:List (κ × V)} {vs:List (κ × Value)} (r:KV kvs vs) (k:κ) {y:V} {u:Value} (ry:RelV y u) :
    KV (kvs.map fun kv=>if kv.1 = k then (kv.1,y) else kv) (vs.map fun kv=>if kv.1 = k then (kv.1,u) else kv):=by
  unfold KV at r ⊢
  induction r with
  | nil=>exact .nil
  | @cons p q ps qs h t ih=>
    rw [List.map_cons,List.map_cons]
    refine .cons ?_ ih
    obtain ⟨h1,h2⟩:=h
    by_cases e:p.1 = k
    · rw [if_pos e,if_pos (h1.symm.trans e)]; exact ⟨h1,ry⟩
    · rw [if_neg e,if_neg (fun z=>e (h1.trans z))]; exact ⟨h1,h2⟩
theorem KV.put {kvs:List (κ × V)} {vs:List (κ × Value)} (r:KV kvs vs) (k:κ) {y:V} {u:Value} (ry:RelV y u):KV (putK kvs k y) (stored vs k u):=by
  unfold putK stored
  rw [r.any k]
  by_cases e:(vs.any fun kv=>decide (kv.1 = k)) = true
  · rw [if_pos e,if_pos e]; exact r.repl k ry
  · rw [if_neg e,if_neg e]; exact Paired.snoc r ⟨rfl,ry⟩
theorem KV.length {kvs:List (κ × V)} {vs:List (κ × Value)} (r:KV kvs vs):kvs.length = vs.length:=Paired.length r
end
theorem kV_is {P:Program} {w:World} {k:Key} {u:Value} (r:RelV (kV k) u):(mixKind P w).is k u = true:=by
  cases k with
  | inl i=>obtain ⟨t,e⟩:=(show ∃ t,u = Value.int i t from r); subst e; exact mixKind_int P w i t
  | inr x=>obtain ⟨t,e⟩:=(show ∃ t,u = Value.str x t from r); subst e; exact mixKind_str P w x t
  | non=>obtain rfl:u = Value.none:=r; rfl
theorem items_are {P:Program} {w:World}:∀ {ks:List Key} {us:List Value},Vals (ks.map kV) us→ItemsAre (mixKind P w) ks us
  | [],_,r=>by rw [List.map_nil] at r; cases r; exact .nil
  | k :: ks,_,r=>by
    rw [List.map_cons] at r
    cases r with
    | cons h t=>exact .cons (kV_is h) (items_are t)
abbrev KT (H:Hp):List (List Key × V)→List (List Key × Addr × Value)→Prop:=Paired fun p q=>p.1 = q.1∧H q.2.1 = some (.tup (p.1.map kV))∧RelV p.2 q.2.2
theorem KT.val {H:Hp} {kvs:List (List Key × V)} {xs:List (List Key × Addr × Value)} (r:KT H kvs xs) (k:List Key):RelO (valV kvs k) ((atKey xs k).map (·.2)):=by
  induction r with
  | nil=>exact True.intro
  | @cons p q ps qs h t ih=>
    obtain ⟨h1,_,h2⟩:=h
    by_cases e:p.1 = k
    · have e':q.1 = k:=h1.symm.trans e
      have b:atKey (q :: qs) k = some q.2:=by simp [atKey,List.find?_cons,e']
      rw [valV_pos e,b]; exact h2
    · have e':¬ q.1 = k:=fun z=>e (h1.trans z)
      have b:atKey (q :: qs) k = atKey qs k:=by simp [atKey,List.find?_cons,e']
      rw [valV_neg e,b]; exact ih
theorem KT.repl {H:Hp} {kvs:List (List Key × V)} {xs:List (List Key × Addr × Value)} (r:KT H kvs xs) (k:List Key) {y:V} {u:Value} (ry:RelV y u) :
    KT H (kvs.map fun kv=>if kv.1 = k then (kv.1,y) else kv) (xs.map (putAt k u)):=by
  induction r with
  | nil=>exact .nil
  | @cons p q ps qs h t ih=>
    rw [List.map_cons,List.map_cons]
    refine .cons ?_ ih
    obtain ⟨h1,h2,h3⟩:=h
    unfold putAt
    by_cases e:p.1 = k
    · rw [if_pos e,if_pos (h1.symm.trans e)]; exact ⟨h1,h2,ry⟩
    · rw [if_neg e,if_neg (fun z=>e (h1.trans z))]; exact ⟨h1,h2,h3⟩
theorem KT.put {H:Hp} {kvs:List (List Key × V)} {xs:List (List Key × Addr × Value)} (r:KT H kvs xs) (k:List Key) {b:Addr} {y:V} {u:Value} (hb:H b = some (.tup (k.map kV))) (ry:RelV y u) :
    KT H (putK kvs k y) (storedH xs k b u):=by
  have e:(kvs.any fun kv=>decide (kv.1 = k)) = (atKey xs k).isSome:=by
    rw [valV_any,(r.val k).isSome_eq,Option.isSome_map]
  unfold putK storedH
  rw [e]
  by_cases q:(atKey xs k).isSome = true
  · rw [if_pos q,if_pos q]; exact r.repl k ry
  · rw [if_neg q,if_neg q]; exact Paired.snoc r ⟨rfl,hb,ry⟩
theorem KT.keeps {H H':Hp} {kvs:List (List Key × V)} {xs:List (List Key × Addr × Value)} (r:KT H kvs xs) (ht:∀ b ys,H b = some (.tup ys)→H' b = some (.tup ys)):KT H' kvs xs:=
  Paired.mapP r fun _ _ z=>⟨z.1,ht _ _ z.2.1,z.2.2⟩
section
variable {P:Program} {w:World} {H:Hp} {h:Heap} {a:Addr}
theorem rd_of {u:HO} (ok:HOk P w H h) (e:Rd H a u):ObjOk P w H h a u:=e.ok ok
theorem dk_rd {kvs:List (Key × V)} (ok:HOk P w H h) (e:Rd H a (.dK kvs)):kvs.length ≤ sizeLine∧(a == sysModules) = false∧∃ vs,KV kvs vs∧h.DictOf (mixKind P w) a vs:=
  show ObjOk P w H h a (.dK kvs) from rd_of ok e
theorem dk_of {kvs:List (Key × V)} (ok:HOk P w H h) (e:H a = some (.dK kvs)):kvs.length ≤ sizeLine∧(a == sysModules) = false∧∃ vs,KV kvs vs∧h.DictOf (mixKind P w) a vs:=dk_rd ok (.inl e)
theorem key_of {ks:List Key} (ok:HOk P w H h) (e:H a = some (.tup (ks.map kV))):(tupleKind (mixKind P w)).is h ks a:=by
  obtain ⟨_,its,r,o,h1,h2,n,h3⟩:=(show ObjOk P w H h a (.tup (ks.map kV)) from ok a _ e)
  exact ⟨o,its.toArray,n,h1,h2,h3,by simpa using items_are r⟩
theorem dt_rd {kvs:List (List Key × V)} (ok:HOk P w H h) (e:Rd H a (.dT kvs)):kvs.length ≤ sizeLine∧(a == sysModules) = false∧
    ∃ xs,KT H kvs xs∧h.DictOfH (tupleKind (mixKind P w)) a xs:=by
  obtain ⟨z,y,xs,r,o,es,ep,h1,h2,h3,h4,h5⟩:=(show ObjOk P w H h a (.dT kvs) from rd_of ok e)
  refine ⟨z,y,xs,r,o,es,ep,h1,h2,h3,h4,fun x hx=>?_,h5⟩
  have all:∀ {l:List (List Key × V)} {m:List (List Key × Addr × Value)},KT H l m→∀ x ∈ m,(tupleKind (mixKind P w)).is h x.1 x.2.1:=by
    intro l m q
    induction q with
    | nil=>intro x hx; exact nomatch hx
    | @cons p q ps qs hq t ih=>
      intro x hx
      rcases List.mem_cons.mp hx with e | hx
      · subst e
        exact key_of ok (by rw [← hq.1]; exact hq.2.1)
      · exact ih x hx
  exact all r x hx
theorem dt_of {kvs:List (List Key × V)} (ok:HOk P w H h) (e:H a = some (.dT kvs)):kvs.length ≤ sizeLine∧(a == sysModules) = false∧
    ∃ xs,KT H kvs xs∧h.DictOfH (tupleKind (mixKind P w)) a xs:=dt_rd ok (.inl e)
end
def DGet (H:Hp) (a:Addr) (y:V) (r:Option V):Prop:=
  (∃ kvs k,Rd H a (.dK kvs)∧y = kV k∧r = valV kvs k) ∨ ∃ kvs k b,Rd H a (.dT kvs)∧y = .ref b∧H b = some (.tup (k.map kV))∧r = valV kvs k
def DPut (H:Hp) (a:Addr) (y v:V) (H':Hp):Prop:=
  (∃ kvs k,H a = some (.dK kvs)∧y = kV k∧kvs.length < sizeLine∧H' = upd H a (.dK (putK kvs k v))) ∨
  ∃ kvs k b,H a = some (.dT kvs)∧y = .ref b∧H b = some (.tup (k.map kV))∧kvs.length < sizeLine∧H' = upd H a (.dT (putK kvs k v))
theorem DGet.k {H:Hp} {a:Addr} {kvs:List (Key × V)} {k:Key} (e:H a = some (.dK kvs)):DGet H a (kV k) (valV kvs k):=.inl ⟨kvs,k,.inl e,rfl,rfl⟩
theorem DGet.t {H:Hp} {a b:Addr} {kvs:List (List Key × V)} {k:List Key} (e:H a = some (.dT kvs)) (eb:H b = some (.tup (k.map kV))):DGet H a (.ref b) (valV kvs k):=.inr ⟨kvs,k,b,.inl e,rfl,eb,rfl⟩
theorem DPut.k {H:Hp} {a:Addr} {kvs:List (Key × V)} {k:Key} {v:V} (e:H a = some (.dK kvs)) (hl:kvs.length < sizeLine):DPut H a (kV k) v (upd H a (.dK (putK kvs k v))):=.inl ⟨kvs,k,e,rfl,hl,rfl⟩
theorem DPut.t {H:Hp} {a b:Addr} {kvs:List (List Key × V)} {k:List Key} {v:V} (e:H a = some (.dT kvs)) (eb:H b = some (.tup (k.map kV))) (hl:kvs.length < sizeLine) :
    DPut H a (.ref b) v (upd H a (.dT (putK kvs k v))):=.inr ⟨kvs,k,b,e,rfl,eb,hl,rfl⟩
section
variable {X:Cx} {pins:List (Addr × Obj)} {σ:St} {H:Hp} {s:Shared} {a:Addr} {y v:V} {u r:Value} {o:Option V} {A:Around} {E:Value→Shared→Prop}
theorem Inv.big (I:Inv X pins σ H s):sysModules < s.heap.objs.size:=by
  have h:mainGlobals < s.heap.objs.size:=(I.mod.glob.keeps I.bk).lt
  exact Nat.lt_trans (by decide) h
theorem d_getItem {Q:Value→Shared→Prop} (hu:A.units + 1 < cLine) (I:Inv X pins σ H s) (g:DGet H a y (some v)) (ry:RelV y u) (h:∀ w' s',Inv X pins σ H s'→RelV v w'→Q w' s') :
    wpAny (model X.prog X.w) A (getItem (.ref a) u) Q E s:=by
  rcases g with ⟨kvs,k,e,ey,l⟩ | ⟨kvs,k,b,e,ey,eb,l⟩
  · subst ey
    obtain ⟨z,hd,vs,rel,dd⟩:=dk_rd I.hok e
    obtain ⟨w',hw,rw'⟩:=RelO.some_of (v:=v) (o:=valueAt vs k) (by rw [l]; exact rel.val k)
    exact wpAny_getItem_of (kV_is ry) dd.mapOf hw (h w' _ (I.tok _) rw')
  · subst ey
    cases (show u = Value.ref b from ry)
    obtain ⟨z,hd,xs,rel,dd⟩:=dt_rd I.hok e
    obtain ⟨w',hw,rw'⟩:=RelO.some_of (v:=v) (o:=(atKey xs k).map (·.2)) (by rw [l]; exact rel.val k)
    obtain ⟨p,hp,hp2⟩:=Option.map_eq_some_iff.mp hw
    refine wpAny_getItem_heap (tupleKind_room_in1 hu) (key_of I.hok eb) dd hp ?_
    rw [hp2]
    exact h w' _ (I.tok _) rw'
theorem d_notIn {Q:Value→Shared→Prop} (hu:A.units + 1 < cLine) (I:Inv X pins σ H s) (g:DGet H a y o) (ry:RelV y u) (h:∀ s',Inv X pins σ H s'→Q (.bool (!o.isSome)) s') :
    wpAny (model X.prog X.w) A (compareOp .NotIn u (.ref a)) Q E s:=by
  rcases g with ⟨kvs,k,e,ey,l⟩ | ⟨kvs,k,b,e,ey,eb,l⟩
  · subst ey
    obtain ⟨z,hd,vs,rel,dd⟩:=dk_rd I.hok e
    refine wpAny_notIn_of (kV_is ry) hd dd.mapOf ?_
    rw [← (rel.val k).isSome_eq,← l]
    exact h _ (I.tok _)
  · subst ey
    cases (show u = Value.ref b from ry)
    obtain ⟨z,hd,xs,rel,dd⟩:=dt_rd I.hok e
    refine wpAny_notIn_heap (tupleKind_room_in1 hu) (key_of I.hok eb) hd dd ?_
    have q:=(rel.val k).isSome_eq
    rw [Option.isSome_map] at q
    rw [← q,← l]
    exact h _ (I.tok _)
theorem d_write {h':Heap} {t':Nat} {ob:HO} (I:Inv X pins σ H s) (mu:Mut (H a)) (hs:Heap.SameBut a s.heap h') (he:∃ q,h'.get? a = some q) (new:ObjOk X.prog X.w (upd H a ob) h' a ob) :
    Inv X pins σ (upd H a ob) { s with heap:=h',toks:=t' }:=
  I.write (x:=a) (e:=a) mu (.inl rfl) (fun b q hb z=>(hs.2 b hb).trans z) he new
theorem dk_new {P:Program} {w:World} {H':Hp} {h':Heap} {kvs:List (Key × V)} {vs:List (Key × Value)} (z:kvs.length ≤ sizeLine) (hd:(a == sysModules) = false) (rel:KV kvs vs) (dd:h'.DictOf (mixKind P w) a vs) :
    ObjOk P w H' h' a (.dK kvs):=⟨z,hd,vs,rel,dd⟩
theorem d_setItem {H':Hp} {Q:Unit→Shared→Prop} (hu:A.units + 1 < cLine) (I:Inv X pins σ H s) (g:DPut H a y v H') (ry:RelV y u) (rv:RelV v r) (h:∀ s',Inv X pins σ H' s'→Q () s') :
    wpAny (model X.prog X.w) A (setItem (.ref a) u r) Q E s:=by
  rcases g with ⟨kvs,k,e,ey,l,eH⟩ | ⟨kvs,k,b,e,ey,eb,l,eH⟩
  · subst ey eH
    obtain ⟨z,hd,vs,rel,dd⟩:=dk_of I.hok e
    have hz:vs.length ≤ sizeLine:=by rw [← rel.length]; exact z
    have hl:(putK kvs k v).length ≤ sizeLine:=by have:=length_putK kvs k v; omega
    refine wpAny_setItem_pairs (hsz:=hz) (kV_is ry) dd fun h' dd' hs=>h _ ?_
    have he:∃ q,h'.get? a = some q:=let ⟨q,_,_,hq,_⟩:=dd'; ⟨q,hq⟩
    exact d_write I (by rw [e]; exact True.intro) hs he (dk_new hl hd (rel.put k rv) dd')
  · subst ey eH
    cases (show u = Value.ref b from ry)
    obtain ⟨z,hd,xs,rel,dd⟩:=dt_of I.hok e
    have hz:xs.length ≤ sizeLine:=by rw [← Paired.length rel]; exact z
    have hl:(putK kvs k v).length ≤ sizeLine:=by have:=length_putK kvs k v; omega
    refine wpAny_setItem_heap (hsz:=hz) (tupleKind_room_in1 hu) (key_of I.hok eb) dd fun h' dd' hs=>h _ ?_
    obtain ⟨q,es,ep,hq,h2,h3,h4,_,h5⟩:=dd'
    refine d_write I (by rw [e]; exact True.intro) hs ⟨q,hq⟩ ⟨hl,hd,_,(rel.put k eb rv).keeps fun c ys ec=>?_,q,es,ep,hq,h2,h3,h4,h5⟩
    rw [upd_ne (ne_of ec e (fun z=>nomatch z))]
    exact ec
end
def NoSl (i:Expr):Prop:=∀ ov iv,subscripted i false ov iv = operate [ov,iv] (getItem ov iv)
theorem subD_of {prog:Program} {w:World} {A:Around} {E:Value→Shared→Prop} {s:Shared} {env:Env} {value slice:Expr} {pos:Pos} {T id:String} {Q:Value→Shared→Prop}
    (hl:typeLookup (.type T) "__getitem__" = pure (some (.builtin id))) (hs:NoSl slice)
    (h:wpAny (model prog w) A (eval value env) (fun o s₁=>wpAny (model prog w) A (eval slice env) (fun i s₂=>s₂.TypeIs o T∧wpAny (model prog w) A (getItem o i) Q E s₂) E s₁) E s) :
    wpAny (model prog w) A (eval (.Subscript value slice pos) env) Q E s:=by
  refine Subscript_ (wpAny_mono h (fun o s₁ h₁=>wpAny_mono h₁ (fun i s₂ h₂=>?_) fun _ _ x=>x) fun _ _ x=>x)
  obtain ⟨hT,h₂⟩:=h₂
  unfold subscriptTail
  refine wpAny_bind ?_
  rw [getitemInPython_of_ne hT.not_modules]
  refine wpAny_bind (wpAny_specialOf hT hl ?_)
  have fin:wpAny (model prog w) A (subscripted slice false o i) (fun r s₃=>wpAny (model prog w) A (letTemporaryGo value o r >>= fun _=>pure r) Q E s₃) E s₂:=by
    rw [hs o i]
    exact wpAny_operating (wpAny_mono h₂ (fun r s₃ h₃=>wpAny_bind (wpAny_letTemporaryGo (wpAny_pure h₃))) fun _ _ x=>x)
  first
    | exact wpAny_pure (wpAny_bind fin)
    | exact wpAny_bind (wpAny_pure (wpAny_bind fin))
    | exact wpAny_bind fin
theorem dict_typeIs {X:Cx} {pins:List (Addr × Obj)} {σ:St} {H:Hp} {s:Shared} {a:Addr} {y:V} {o:Option V} (I:Inv X pins σ H s) (g:DGet H a y o):s.TypeIs (.ref a) "dict":=by
  rcases g with ⟨kvs,k,e,_,_⟩ | ⟨kvs,k,b,e,_,_,_⟩
  · obtain ⟨_,_,vs,_,dd⟩:=dk_rd I.hok e
    exact dd.typeIs
  · obtain ⟨_,_,xs,_,dd⟩:=dt_rd I.hok e
    exact dd.typeIs
def tDGet (td ty:TE):TE:=fun σ H Q=>td σ H fun x H1=>ty σ H1 fun y H2=>∃ a v,x = .ref a∧DGet H2 a y (some v)∧Q v H2
def sDPut (td ty tv:TE):TS:=fun D σ H=>tv σ H fun v H1=>td σ H1 fun x H2=>ty σ H2 fun y H3=>∃ a H4,x = .ref a∧DPut H3 a y v H4∧D.nx σ H4
section
variable {X:Cx} {o i e value:Expr} {pos pos' tpos:Pos} {td ty tv:TE}
theorem pe_dget (hu:X.A.units + 1 < cLine) (ho:PE X o td) (hi:PE X i ty) (hs:NoSl i):PE X (.Subscript o i pos) (tDGet td ty):=by
  intro pins s σ H Q I h
  refine subD_of PySem.F.slot_dict_getitem.lookup hs (thn (ho pins s σ H _ I h) fun u s1 ⟨x,H1,I1,rx,q1⟩=>thn (hi pins s1 σ H1 _ I1 q1) fun iv s2 ⟨y,H2,I2,ry,a,v,ex,g,q2⟩=>?_)
  subst ex
  obtain rfl:u = Value.ref a:=rx
  exact ⟨dict_typeIs I2 g,d_getItem hu I2 g ry fun w' s3 I3 rw'=>⟨v,H2,I3,rw',q2⟩⟩
theorem ps_dput (hu:X.A.units + 1 < cLine) (ho:PE X o td) (hi:PE X i ty) (hv:PE X value tv) (hs:swapsWith value (some (.Subscript o i pos')) pos.line X.env = pure false) :
    PS X (.Assign [.Subscript o i pos'] value pos) (sDPut td ty tv):=by
  intro pins s σ H D I h
  refine wpAny_Assign_Subscript (thn (hv pins s σ H _ I h) fun r s1 ⟨v,H1,I1,rv,q1⟩=>thn (ho pins s1 σ H1 _ I1 q1) fun u s2 ⟨x,H2,I2,rx,q2⟩=>thn (hi pins s2 σ H2 _ I2 q2) fun iv s3 ⟨y,H3,I3,ry,a,H4,ex,g,q3⟩=>?_) hs
  subst ex
  obtain rfl:u = Value.ref a:=rx
  exact d_setItem hu I3 g ry rv fun s4 I4=>⟨σ,H4,I4,q3⟩
end
theorem dk_empty {P:Program} {w:World} {H:Hp} (h:Heap) (hb:sysModules < h.objs.size):ObjOk P w H (h.push { cls:=.type "dict",data:=.dict #[] }) h.objs.size (.dK []):=
  ⟨Nat.zero_le _,beq_eq_false_iff_ne.mpr (Ne.symm (Nat.ne_of_lt hb)),[],.nil,Heap.DictOf.new h⟩
theorem dt_empty {P:Program} {w:World} {H:Hp} (h:Heap) (hb:sysModules < h.objs.size):ObjOk P w H (h.push { cls:=.type "dict",data:=.dict #[] }) h.objs.size (.dT []):=
  ⟨Nat.zero_le _,beq_eq_false_iff_ne.mpr (Ne.symm (Nat.ne_of_lt hb)),[],.nil,_,#[],0,Heap.get?_push_size _ rfl,⟨rfl,rfl,rfl⟩,rfl,rfl,List.nodup_nil⟩
def tDNewK:TE:=fun _ H Q=>∀ p,H p = none→Q (.ref p) (upd H p (.dK []))
def tDNewT:TE:=fun _ H Q=>∀ p,H p = none→Q (.ref p) (upd H p (.dT []))
section
variable {X:Cx} {pos:Pos}
theorem pe_dnewK:PE X (.Dict [] [] pos) tDNewK:=fun pins s σ H Q I h=>
  wpAny_Dict_empty ⟨.ref s.heap.objs.size,_,I.laid (a:=s.heap.objs.size) (o:=.dK []) (t':=s.toks) (fun _ _ q=>Heap.get?_push_of_some _ q) (Nat.le_refl _) (dk_empty s.heap I.big),rfl,h _ (I.hok.fresh (Nat.le_refl _))⟩
theorem pe_dnewT:PE X (.Dict [] [] pos) tDNewT:=fun pins s σ H Q I h=>
  wpAny_Dict_empty ⟨.ref s.heap.objs.size,_,I.laid (a:=s.heap.objs.size) (o:=.dT []) (t':=s.toks) (fun _ _ q=>Heap.get?_push_of_some _ q) (Nat.le_refl _) (dt_empty s.heap I.big),rfl,h _ (I.hok.fresh (Nat.le_refl _))⟩
end
structure M2 (X:Cx) (o:Expr) (m:Str) (apos:Pos) (e f:Expr) (cpos:Pos):Prop where
  base:attributeBase o m X.env (eval o X.env) = eval o X.env
  few:((backTo cpos (starEach [e,f] X.env)).all (fun x=>!x.1) && (backToKw cpos (keywordEach [] X.env)).all (fun x=>x.1.isSome)
    && decide (([e,f]:List Expr).length + ([]:List Keyword).length + (if ([]:List Keyword).isEmpty then 0 else 1) < 30)) = true
  line:(apos.endLine == cpos.line) = true
  trees:backTo cpos (starEach [e,f] X.env) = [(false,eval e X.env),(false,eval f X.env)]
def IsD (H:Hp) (a:Addr):Prop:=(∃ kvs,Rd H a (.dK kvs)) ∨ ∃ kvs,Rd H a (.dT kvs)
theorem isD_at {X:Cx} {pins:List (Addr × Obj)} {σ:St} {H:Hp} {s:Shared} {a:Addr} (I:Inv X pins σ H s) (d:IsD H a) :
    s.TypeIs (.ref a) "dict"∧(∀ b,Value.ref a = .ref b→∃ ob,s.heap.get? b = some ob∧ob.dict = none)∧(a == sysModules) = false:=by
  rcases d with ⟨kvs,e⟩ | ⟨kvs,e⟩
  · obtain ⟨_,hd,vs,_,dd⟩:=dk_rd I.hok e
    refine ⟨dd.typeIs,fun b q=>?_,hd⟩
    cases q
    obtain ⟨ob,_,_,h1,h2,_⟩:=dd
    exact ⟨ob,h1,h2.2.1⟩
  · obtain ⟨_,hd,xs,_,dd⟩:=dt_rd I.hok e
    refine ⟨dd.typeIs,fun b q=>?_,hd⟩
    cases q
    obtain ⟨ob,_,_,h1,h2,_⟩:=dd
    exact ⟨ob,h1,h2.2.1⟩
section
variable {X:Cx} {pins:List (Addr × Obj)} {σ:St} {H:Hp} {s:Shared} {a:Addr} {y d:V} {u r:Value} {o:Option V} {A:Around} {E:Value→Shared→Prop}
theorem d_get2 {Q:Value→Shared→Prop} (hu:A.units + 1 < cLine) (I:Inv X pins σ H s) (g:DGet H a y o) (ry:RelV y u) (rd:RelV d r) (h:∀ w' s',Inv X pins σ H s'→RelV (o.getD d) w'→Q w' s') :
    wpAny (model X.prog X.w) A (call (.builtin "dict.get") [.ref a,u,r]) Q E s:=by
  rcases g with ⟨kvs,k,e,ey,l⟩ | ⟨kvs,k,b,e,ey,eb,l⟩
  · subst ey
    obtain ⟨z,hd,vs,rel,dd⟩:=dk_rd I.hok e
    refine call_meetsIn PySem.F.slot_dict_get dd.typeIs PySem.F.entry_dict_get (PySem.F.args_dict_get_3 _ _ _) (meets_dict_get_default (mixKind X.prog X.w) a (kV_is ry) hd r) ⟨_,dd.mapOf,h _ _ (I.tok _) ?_⟩
    rw [l]
    exact (rel.val k).getD rd
  · subst ey
    cases (show u = Value.ref b from ry)
    obtain ⟨z,hd,xs,rel,dd⟩:=dt_rd I.hok e
    refine call_meetsIn PySem.F.slot_dict_get dd.typeIs PySem.F.entry_dict_get (PySem.F.args_dict_get_3 _ _ _) (meetsH_dict_get_default (tupleKind (mixKind X.prog X.w)) a b hd r) ⟨tupleKind_room_in1 hu,k,xs,key_of I.hok eb,dd,h _ _ (I.tok _) ?_⟩
    rw [l]
    exact (rel.val k).getD rd
end
def tDGet2 (td ty tx:TE):TE:=fun σ H Q=>td σ H fun x H1=>∃ a,x = .ref a∧IsD H1 a∧ty σ H1 fun y H2=>tx σ H2 fun z H3=>∃ o,DGet H3 a y o∧Q (o.getD z) H3
section
variable {X:Cx} {o e f:Expr} {apos cpos:Pos} {td ty tx:TE}
theorem pe_dget2 (hu : X.A.units + 1 < cLine) (ho : PE X o td) (he : PE X e ty) (hf : PE X f tx) (m : M2 X o "get" apos e f cpos) : PE X (.Call (.Attribute o "get" apos) [e, f] [] cpos) (tDGet2 td ty tx) := by
  intro pins s σ H Q I h
  refine wpAny_Call_method m.base m.few m.line PySem.F.plainAttrs_dict PySem.F.slot_dict_get PySem.F.type_dict_get (thn (ho pins s σ H _ I h) fun u s1 ⟨x,H1,I1,rx,a,ex,d,q1⟩=>?_)
  subst ex
  obtain rfl:u = Value.ref a:=rx
  obtain ⟨t1,t2,_⟩:=isD_at I1 d
  refine ⟨t1,t2,?_⟩
  rw [m.trees]
  refine Calls.callWith_builtin rfl (Calls.evalArgs_plain (Calls.spliced_cons (thn (he pins s1 σ H1 _ I1 q1) fun iv s2 ⟨y,H2,I2,ry,q2⟩=>
    Calls.spliced_cons (thn (hf pins s2 σ H2 _ I2 q2) fun fv s3 ⟨z,H3,I3,rz,ov,g,q3⟩=>Calls.spliced_nil ?_))))
  exact d_get2 hu I3 g ry rz fun w' s4 I4 rw'=>⟨_,H3,I4,rw',q3⟩
end
end L2
namespace Rev
open PySem PyProof.Rows PySem.Calls
theorem look_len:typeLookup (.type "list_reverseiterator") "__len__" = pure none:=by rw [typeLookup_type,builtinLookup_eq_fast]; kernel_rfl
theorem look_hint:typeLookup (.type "list_reverseiterator") "__length_hint__" = pure (some (.builtin "list_reverseiterator.__length_hint__")):=by rw [typeLookup_type,builtinLookup_eq_fast]; kernel_rfl
section
variable {prog:Program} {w:World} {A:Around} {E:Value→Shared→Prop} {s:Shared} {r l:Addr} {items:Array Value}
theorem hint {Q:Bool→Shared→Prop} (hT:s.TypeIs (.ref r) "list_reverseiterator") (h:Q false s):wpAny (model prog w) A (Builtin.List.listLengthHint (.ref r)) Q E s:=by
  unfold Builtin.List.listLengthHint
  refine wpAny_bind (wpAny_specialOf hT look_len ?_)
  refine wpAny_ite_split (fun hab=>absurd hab (by decide)) (fun _=>?_)
  refine wpAny_ite_split (fun hab=>absurd hab (by decide)) (fun _=>?_)
  refine wpAny_bind (wpAny_specialOf hT look_hint ?_)
  generalize hid:("list_reverseiterator.__length_hint__":String) = id0
  wp_delta
  rw [show splitId id0 = some ("list_reverseiterator", "__length_hint__") from by subst hid; decide +kernel]
  subst hid
  refine wpAny_bind (wpAny_isInstance (T:="list_reverseiterator") (b:=true) hT (by rw [isSubtype_type]; kernel_rfl) ?_)
  refine wpAny_ite_split (fun hab=>absurd hab (by decide)) (fun _=>?_)
  refine wpAny_ite_split (fun _=>?_) (fun hab=>absurd (by decide +kernel) hab)
  refine wpAny_ite_split (fun hab=>absurd hab (by decide +kernel)) (fun _=>?_)
  exact wpAny_pure h
theorem extend {R:Result→Shared→Prop} (hh:A.handled = none) (hit:s.heap.IsRevIter r l ((items.size:Int) - 1)) (hl:s.heap.IsList l items) (hne:l ≠ r) (S:Addr) (hSr:S ≠ r) (hSl:S ≠ l) (res:Value) (c₀:Nat)
    (hS:s.heap.get? S = some { cls:=.type "list",data:=.seq #[] c₀ })
    (hR:∀ h' tk acc' c',(∀ b o,b ≠ S→b ≠ r→s.heap.get? b = some o→h'.get? b = some o)→h'.get? S = some { cls:=.type "list",dict:=none,data:=.seq acc' c',slots:=#[] }→ItemsOf (fun i v=>items[items.size - 1 - i]? = some v) acc' items.size→R (.ok (.ret res)) { s with heap:=h',toks:=tk })
    (hn:items.size ≤ sizeLine) :
    wpAny (model prog w) A.in1 (Builtin.List.listExtendWith (.ref S) (.ref r) res)
      (fun fin s'=>match fin with | .done f=>R (.ok f) s' | .again c'=>c'.quiet = true∧codeAny (model prog w) A c' R s') (fun e s'=>R (.error e) s') s:=by
  have hSf:S ∉ [r,l]:=by simp only [List.mem_cons,List.not_mem_nil,or_false,not_or]; exact ⟨hSr,hSl⟩
  have W:=Walks.listRev (prog:=prog) (w:=w) (A:=A.in1) hh r l hne items
  have st:(0 ≤ items.size∧s.heap.IsRevIter r l ((items.size:Int) - 1 - ((0:Nat):Int))∧s.heap.IsList l items):=⟨Nat.zero_le _,by simpa using hit,hl⟩
  have key:∀ (h:Heap) (c₁ tk:Nat),(0 ≤ items.size∧h.IsRevIter r l ((items.size:Int) - 1 - ((0:Nat):Int))∧h.IsList l items)→(∀ b o,b ≠ S→b ≠ r→s.heap.get? b = some o→h.get? b = some o)→
      h.get? S = some { cls := .type "list", data := .seq #[] c₁ } → codeAny (model prog w) A (.builtin "list.extend.loop" ⟨[.ref S, .ref r, res], []⟩) R { s with heap := h, toks := tk } := by
    intro h c₁ tk hst hk hS₁
    refine codeAny_extend_loopS W.toS hn S hSf res items.size 0 _ #[] c₁ rfl (Nat.zero_le _) hst hS₁ (ItemsOf.nil _) fun s' acc' c' hm hS' hacc=>?_
    rw [Moved.eq_with hm]
    refine hR s'.heap s'.toks acc' c' (fun b o hb hb2 e=>hm.heap b o (fun hmem=>?_) (hk b o hb hb2 e)) hS' hacc
    rcases List.mem_cons.mp hmem with e' | hmem
    · exact hb e'
    · exact hb2 (List.mem_singleton.mp hmem)
  unfold Builtin.List.listExtendWith
  refine wpAny_bind (wpAny_typeOf (T:="list_reverseiterator") hit.typeIs ?_)
  have h1:Builtin.List.listSameRef (.ref S) (.ref r) = false:=by simp [Builtin.List.listSameRef,hSr]
  have h2:(Value.type "list_reverseiterator" == Value.type "list") = false:=by decide
  have h3:(Value.type "list_reverseiterator" == Value.type "tuple") = false:=by decide
  simp only [h1,h2,h3,Bool.or_false,Bool.false_eq_true,if_false]
  refine wpAny_bind (wpAny_pyIter_revIter hit ?_)
  refine wpAny_bind (wpAny_holding (hint hit.typeIs ?_))
  refine wpAny_ite_split (fun _=>?_) (fun _=>wpAny_pure ⟨plainId_quiet PySem.F.plain_extend_loop _,key _ c₀ _ st (fun b o _ _ e=>e) hS⟩)
  refine wpAny_bind (wpAny_rule ?_)
  refine wpAny_bind ?_
  show wpAny _ _ (updateSeq S (·.push .none) >>= fun _=>updateSeq S (·.pop)) _ _ _
  refine wpAny_bind (wpAny_updateSeq hS rfl ?_)
  have hS₂:=Heap.get?_update_self (Obj.mapSeq (·.push Value.none)) hS rfl
  refine wpAny_updateSeq (hz:=by seq_fits) hS₂ rfl ?_
  have hS₃:=Heap.get?_update_self (Obj.mapSeq (·.pop)) hS₂ rfl
  refine wpAny_pure ⟨plainId_quiet PySem.F.plain_extend_loop _,key _ _ _ ?_ (fun b o hb _ e=>?_) hS₃⟩
  · refine W.frame 0 _ _ st fun b hb o e=>?_
    have hbS:b ≠ S:=fun h=>hSf (h ▸ hb)
    exact (Heap.get?_update_other _ _ (Ne.symm hbS)).trans ((Heap.get?_update_other _ _ (Ne.symm hbS)).trans e)
  · exact (Heap.get?_update_other _ _ (Ne.symm hb)).trans ((Heap.get?_update_other _ _ (Ne.symm hb)).trans e)
theorem init {R:Result→Shared→Prop} (hh:A.handled = none) (hit:s.heap.IsRevIter r l ((items.size:Int) - 1)) (hl:s.heap.IsList l items) (hne:l ≠ r) (S:Addr) (hSr:S ≠ r) (hSl:S ≠ l) (hS:s.heap.get? S = some { cls:=.type "list",data:=.seq #[] })
    (hR:∀ h' tk acc' c',(∀ b o,b ≠ S→b ≠ r→s.heap.get? b = some o→h'.get? b = some o)→h'.get? S = some { cls:=.type "list",dict:=none,data:=.seq acc' c',slots:=#[] }→ItemsOf (fun i v=>items[items.size - 1 - i]? = some v) acc' items.size→R (.ok (.ret .none)) { s with heap:=h',toks:=tk })
    (hn:items.size ≤ sizeLine) :
    wpAny (model prog w) A.in1 (Builtin.«list.__init__» ⟨[.ref S,.ref r],[]⟩)
      (fun fin s'=>match fin with | .done f=>R (.ok f) s' | .again c'=>c'.quiet = true∧codeAny (model prog w) A c' R s') (fun e s'=>R (.error e) s') s:=by
  show wpAny _ _ (do let old ← Builtin.List.listItems (.ref S); Builtin.List.listUpdate (.ref S) (fun _=>#[]); letGo old.toList.reverse; Builtin.List.listExtendWith (.ref S) (.ref r) .none) _ _ s
  refine wpAny_bind ?_
  unfold Builtin.List.listItems
  refine wpAny_bind (wpAny_seqItems hS rfl (wpAny_pure ?_))
  show wpAny _ _ (updateSeq S (fun _=>#[]) >>= fun _=>letGo (#[]:Array Value).toList.reverse >>= fun _=>Builtin.List.listExtendWith (.ref S) (.ref r) .none) _ _ s
  refine wpAny_bind (wpAny_updateSeq hS rfl ?_)
  have hS₂:=Heap.get?_update_self (Obj.mapSeq (fun _=>(#[]:Array Value))) hS rfl
  have oth:∀ b o,b ≠ S→s.heap.get? b = some o→(s.heap.update S (Obj.mapSeq (fun _=>(#[]:Array Value)))).get? b = some o:=
    fun b o hb e=>(Heap.get?_update_other _ _ (Ne.symm hb)).trans e
  refine wpAny_bind (wpAny_letGo ?_)
  refine extend hh (hit.at fun o e=>oth r o hSr.symm e) (hl.at fun o e=>oth l o hSl.symm e) hne S hSr hSl .none _ hS₂ (fun h' tk acc' c' hk hS' hacc=>?_) hn
  exact hR h' tk acc' c' (fun b o hb hb2 e=>hk b o hb hb2 (oth b o hb e)) hS' hacc
theorem call_list {Q:Value→Shared→Prop} (hh:A.handled = none) (hit:s.heap.IsRevIter r l ((items.size:Int) - 1)) (hl:s.heap.IsList l items) (hne:l ≠ r) (hn:items.size ≤ sizeLine)
    (hQ:∀ h' tk acc' c',(∀ b o,b ≠ r→s.heap.get? b = some o→h'.get? b = some o)→h'.get? s.heap.objs.size = some { cls:=.type "list",dict:=none,data:=.seq acc' c',slots:=#[] }→ItemsOf (fun i v=>items[items.size - 1 - i]? = some v) acc' items.size→Q (.ref s.heap.objs.size) { s with heap:=h',toks:=tk }) :
    wpAny (model prog w) A (call (.type "list") [.ref r]) Q E s:=by
  refine callType_codes (Q₁:=fun obj s₁=>obj = .ref s.heap.objs.size∧s₁ = { s with heap:=s.heap.push { cls:=.type "list",data:=.seq #[] } }) PySem.F.called_list (PySem.F.typeCall_list_1 _) PySem.F.entry_list_init
    (code_list_new _ ⟨rfl,rfl⟩) fun obj s₁ h₁=>?_
  obtain ⟨rfl,rfl⟩:=h₁
  have hS : (s.heap.push { cls := .type "list", data := .seq #[] }).get? s.heap.objs.size = some { cls := .type "list", data := .seq #[] } := Heap.get?_push_size _ rfl
  have h1:r < s.heap.objs.size:=let ⟨_,e,_⟩:=hit; Heap.lt_size e
  have h2:l < s.heap.objs.size:=let ⟨_,e,_⟩:=hl; Heap.lt_size e
  refine ⟨⟨_,hS,rfl⟩,PySem.F.args_list_init_2 _ _,init (A:=A.in1) hh (hit.at fun o e=>Heap.get?_push_of_some _ e) (hl.at fun o e=>Heap.get?_push_of_some _ e) hne _ (Nat.ne_of_gt h1) (Nat.ne_of_gt h2) hS (fun h' tk acc' c' hk hS' hacc=>?_) hn⟩
  exact ⟨rfl,hQ h' tk acc' c' (fun b o hb e=>hk b o (Nat.ne_of_lt (Heap.lt_size e)) hb (Heap.get?_push_of_some _ e)) hS' hacc⟩
theorem sortedD {K:Type} [DecidableEq K] {knd:PySem.KeyKind prog w K} {d:Addr} {kvs:List (K × Value)} {ep:Nat} {Q:Value→Shared→Prop} (hh:A.handled = none) (lo:(d == sysModules) = false) (hd:s.heap.DictAt knd d kvs ep) (h64:kvs.length < 64)
    {ss:List Str} (hs:∀ us:List Value,us.length = kvs.length→(∀ (j:Nat) (v:Value),us[j]? = some v→∃ (k:K) (x:Value),kvs[j]? = some (k,x)∧knd.is k v = true)→StrsAre us ss)
    (hQ:∀ (h1 h':Heap) (tk:Nat) (e:Nat) (out:Array Value) (ss':List Str),(∀ b o,s.heap.get? b = some o→h1.get? b = some o)→(∀ b o,h1.get? b = some o→h'.get? b = some o)→
      h'.get? h1.objs.size = some (seqObj "list" out e)→StrsAre out.toList ss'→ss'.Perm ss→sortedS ss' = true→Q (.ref h1.objs.size) { s with heap:=h',toks:=tk }) :
    wpAny (model prog w) A (call (.builtin "sorted") [.ref d]) Q E s:=by
  have hn:kvs.length ≤ sizeLine:=by rw [sizeLine_eq]; omega
  refine call_function_entry kind_sorted plain_sorted entry_sorted (args_sorted1 _) ?_
  unfold Builtin.«sorted»
  refine wpAny_bind (m:=checkCount "sorted" 1 1 _) (wpAny_pure ?_)
  refine wpAny_bind (W.kdu_collect (A:=A.in1) (W.kdl_dict (knd:=knd) (kvs:=kvs) (ep:=ep) lo) hh hd hn fun h1 tk acc hk hacc=>?_)
  have hl:acc.toList.length = kvs.length:=by rw [Array.length_toList]; exact hacc.1
  have hS:=hs acc.toList hl fun j v e=>hacc.2 j v (by rw [← Array.getElem?_toList]; exact e)
  refine wpAny_bind (wpAny_newList ?_ (by rw [hl]; exact hn))
  have ho : (h1.push { cls := .type "list", data := .seq acc.toList.toArray }).get? h1.objs.size = some (seqObj "list" acc.toList.toArray 0) := Heap.get?_push_size _ rfl
  refine wpAny_bind (wpAny_holding (wpAny_call_entry slot_list_sort ⟨_,ho,rfl⟩ entry_list_sort (list_sort_treeK strKind_oneLt ho hS.keysOf (fun v₁ v₂ rest e=>keyKind_strs (by rw [← e]; exact hS)) (by rw [hl]; exact h64) fun st' a1 a2=>⟨_,rfl,?_⟩) (args_list_sort _)))
  obtain ⟨ss',q1,q2,q3⟩:=sorted_out_str hS a1 a2
  obtain ⟨e,he⟩:=sortedHeap_at (out:=(arrOf st').map (·.2)) ho
  refine wpAny_pure ⟨_,rfl,hQ h1 _ tk e _ ss' hk (fun b o hb=>?_) he q1 q2 q3⟩
  have hlt:=Heap.lt_size hb
  rw [sortedHeap_old (Nat.ne_of_lt hlt) (by rw [size_push']; exact Nat.lt_succ_of_lt hlt)]
  exact Heap.get?_push_of_some _ hb
end
end Rev
namespace SetTx
open PySem
theorem layNew_led (t:SetTable) (es:Array (Int × Value)) (h:Int) (x:Value):(layNew t es h x).2.1.led = t.led∧(t.plain = false→(layNew t es h x).2.1.plain = false):=by
  unfold layNew
  split
  · dsimp only
    unfold SetTable.orStandIn
    split
    · exact ⟨rfl,id⟩
    · exact ⟨rfl,fun _=>rfl⟩
  · exact ⟨rfl,fun _=>rfl⟩
theorem relaid_led {t t':SetTable} {hs:Array Int} {w:Nat} {o:Array Nat} (h:t.relaid hs w = some (t',o)):t'.led = t.led∧t'.plain = t.plain:=by
  unfold SetTable.relaid SetTable.laid at h
  simp only [bind,Option.bind,pure] at h
  split at h
  · cases h
  · cases h
    exact ⟨rfl,rfl⟩
theorem relayAll_led (t:SetTable) (es:Array (Int × Value)) (w:Nat):(relayAll t es w).2.1.led = t.led∧(t.plain = false→(relayAll t es w).2.1.plain = false):=by
  unfold relayAll
  split
  · next t' o h=>
    have:=relaid_led h
    dsimp only
    split
    · exact ⟨this.1,fun z=>this.2.trans z⟩
    · exact ⟨rfl,fun _=>rfl⟩
  · exact ⟨rfl,fun _=>rfl⟩
section
variable {prog:Program} {w:World} {A:Around} {E:Value→Shared→Prop} {s:Shared}
theorem add_text {a:Addr} {o:Obj} {es:Array (Int × Value)} {ep:Nat} {t:SetTable} {k:Str} {tok:Tok} {Q:Bool→Shared→Prop} (ho:s.heap.get? a = some o) (hd:o.data = .set es ep t) (hel:ElemsOf (strKind prog w) es.toList) (hb:es.size + 1 < scanBound) (hf:t.fits es.size = true)
    (h1:(∃ e ∈ es.toList,(strKind prog w).is k e.2 = true)→Q false s)
    (h2:(∀ e ∈ es.toList,(strKind prog w).is k e.2 = false)→∀ (h':Heap) (es':Array (Int × Value)) (ep':Nat) (t':SetTable),Heap.SameBut a s.heap h'→h'.get? a = some { o with data:=.set es' ep' t' }→es'.toList.Perm (es.toList ++ [((strKind prog w).hash k,.str k tok)])→t'.fits es'.size = true→t'.led = t.led→t'.plain = false→Q true { s with heap:=h' }) :
    wpAny (model prog w) A (setAddHashed a (.str k tok) ((strKind prog w).hash k)) Q E s:=by
  have hkey:(strKind prog w).is k (.str k tok) = true:=strKind_is _ _ _ _
  have hsc:(Value.str k tok).scannable = true:=rfl
  have hb0:es.size < scanBound:=by omega
  have hgw:∀ (b:Bool) (s₁:Shared) (Q':Unit→Shared→Prop),Q' () s₁→wpAny (model prog w) A (match b with | true=>rule "set.scan.the-table-gave-way" | false=>pure ()) Q' E s₁:=
    fun b s₁ Q' hq=>by cases b <;> first | exact wpAny_pure hq | exact wpAny_rule hq
  unfold setAddHashed setAddHashedIn
  refine wpAny_holding (wpAny_bind (wpAny_setState_of ho hd hf ?_))
  dsimp only
  rw [byScan_of hsc hb0 hel]
  simp only [↓reduceIte]
  unfold setAddByScan
  refine wpAny_bind (wpAny_bind (wpAny_rule (wpAny_bind (wpAny_setScan_of hkey ho hd hf hel ?_))))
  cases hr:List.findIdx? (fun e=>(strKind prog w).is k e.2) es.toList with
  | some j=>
    obtain ⟨hj,hpj,_⟩:=List.findIdx?_eq_some_iff_getElem.mp hr
    exact wpAny_pure (wpAny_pure (h1 ⟨_,List.getElem_mem hj,hpj⟩))
  | none=>
    have none1:∀ e ∈ es.toList,(strKind prog w).is k e.2 = false:=fun e he=>by simpa using List.findIdx?_eq_none_iff.mp hr e he
    have h2:=h2 none1
    have p1:=layNew_perm t es ((strKind prog w).hash k) (.str k tok)
    have f1:=layNew_fits t es ((strKind prog w).hash k) (.str k tok)
    obtain ⟨l1,n1⟩:=layNew_led t es ((strKind prog w).hash k) (.str k tok)
    generalize layNew t es ((strKind prog w).hash k) (.str k tok) = N at p1 f1 l1 n1 ⊢
    obtain ⟨es1,t1,was,gave⟩:=N
    dsimp only at p1 f1 l1 n1 ⊢
    rw [Array.toList_push] at p1
    have sz1:es1.size = es.size + 1:=by rw [← Array.length_toList,p1.length_eq,List.length_append,Array.length_toList]; rfl
    have hz1:es1.size < scanBound:=by omega
    have get1:∀ (h:Heap) (o:Obj) (es ep t es' t'),h.get? a = some o→o.data = .set es ep t→(h.update a (Obj.putSet es' t')).get? a = some { o with data:=.set es' (ep + 1) t' }:=fun h o es ep t es' t' ho hd=>by
      have:=Heap.get?_update_self (Obj.putSet es' t') ho (by rw [putSet_of es' t' hd]; rfl)
      rw [putSet_of es' t' hd] at this
      exact this
    have tail:∀ (t2:SetTable) (g:Bool→Sem Unit),(∀ (b:Bool) (s₁:Shared) (Q':Unit→Shared→Prop),Q' () s₁→wpAny (model prog w) A (g b) Q' E s₁)→t2.fits es1.size = true→t2.led = t.led→t2.plain = false→∀ R:Option Bool→Shared→Prop,(∀ h',Q true { s with heap:=h' }→R (some true) { s with heap:=h' })→
        wpAny (model prog w) A (do
          storeSet a es1 t2
          if (!was && t2.tooFull) = true then do
              g (relayAll t2 es1 (SetTable.grown es1.size)).2.2
              storeSet a (relayAll t2 es1 (SetTable.grown es1.size)).1 (relayAll t2 es1 (SetTable.grown es1.size)).2.1
              pure (some true)
            else pure (some true)) R E s:=fun t2 g hg f2 l2 n2 R hR=>by
      refine wpAny_bind (wpAny_storeSet_of ho hd ?_ (fits_of_scanBound hz1))
      have ho1:=get1 s.heap o es ep t es1 t2 ho hd
      have sb1:=Heap.SameBut.update s.heap a (Obj.putSet es1 t2)
      split
      · have p2:=relayAll_perm t2 es1 (SetTable.grown es1.size)
        have f3:=relayAll_fits t2 es1 (SetTable.grown es1.size)
        obtain ⟨l3,n3⟩:=relayAll_led t2 es1 (SetTable.grown es1.size)
        generalize relayAll t2 es1 (SetTable.grown es1.size) = Rl at p2 f3 l3 n3 ⊢
        obtain ⟨es2,t3,gave2⟩:=Rl
        dsimp only at p2 f3 l3 n3 ⊢
        have sz2:es2.size = es1.size:=by rw [← Array.length_toList,p2.length_eq,Array.length_toList]
        refine wpAny_bind (hg _ _ _ (wpAny_bind (wpAny_storeSet_of ho1 rfl ?_ (fits_of_scanBound (by omega)))))
        have g2:=get1 (s.heap.update a (Obj.putSet es1 t2)) { o with data:=.set es1 (ep + 1) t2 } es1 (ep + 1) t2 es2 t3 ho1 rfl
        exact wpAny_pure (hR _ (h2 _ es2 _ t3 (sb1.trans (Heap.SameBut.update _ a _)) g2 (p2.trans p1) f3 (l3.trans l2) (n3 n2)))
      · exact wpAny_pure (hR _ (h2 _ es1 _ t2 sb1 ho1 p1 f2 l2 n2))
    refine wpAny_bind (hgw _ _ _ ?_)
    split
    · refine wpAny_bind ?_
      rw [hashByValue_scannable 8 hsc]
      refine wpAny_pure ?_
      rw [if_neg (show ¬ plainKind (.str k tok) = true from Bool.false_ne_true)]
      refine tail { t1 with plain:=false } _ ?_ (SetTable.fits_plain_off f1) l1 rfl _ ?_
      · intro b s₁ Q' hq; cases b <;> first | exact wpAny_pure hq | exact wpAny_rule hq
      · intro h' hq; dsimp only; exact wpAny_pure hq
    · next hp=>
      refine wpAny_bind (wpAny_pure ?_)
      simp only [↓reduceIte]
      refine tail t1 _ ?_ f1 l1 (by simpa using hp) _ ?_
      · intro b s₁ Q' hq; cases b <;> first | exact wpAny_pure hq | exact wpAny_rule hq
      · intro h' hq; dsimp only; exact wpAny_pure hq
end
end SetTx
namespace SetTx
open PySem PyProof.Rows
def keyOf:Value→Str
  | .str s _=>s
  | _=>""
def dedN (val:Nat→Str):Nat→List Str
  | 0=>[]
  | i + 1=>if val i ∈ dedN val i then dedN val i else dedN val i ++ [val i]
theorem dedN_len (val:Nat→Str):∀ i,(dedN val i).length ≤ i
  | 0=>Nat.le_refl _
  | i + 1=>by
    have:=dedN_len val i
    unfold dedN
    split
    · omega
    · rw [List.length_append]; simp; omega
theorem dedN_mem (val:Nat→Str):∀ (i:Nat) (x:Str),x ∈ dedN val i ↔ ∃ j,j < i∧val j = x
  | 0,x=>by simp [dedN]
  | i + 1,x=>by
    have ih:=dedN_mem val i
    unfold dedN
    split
    · next h=>
      rw [ih]
      constructor
      · rintro ⟨j,hj,e⟩; exact ⟨j,by omega,e⟩
      · rintro ⟨j,hj,e⟩
        by_cases z:j = i
        · subst z; rw [← e]; exact (ih _).mp h
        · exact ⟨j,by omega,e⟩
    · rw [List.mem_append,ih,List.mem_singleton]
      constructor
      · rintro (⟨j,hj,e⟩ | rfl)
        · exact ⟨j,by omega,e⟩
        · exact ⟨i,by omega,rfl⟩
      · rintro ⟨j,hj,e⟩
        by_cases z:j = i
        · subst z; exact .inr e.symm
        · exact .inl ⟨j,by omega,e⟩
theorem dedN_nodup (val:Nat→Str):∀ i,(dedN val i).Nodup
  | 0=>List.nodup_nil
  | i + 1=>by
    have ih:=dedN_nodup val i
    unfold dedN
    split
    · exact ih
    · next h=>
      rw [List.nodup_append]
      refine ⟨ih,by simp,fun a ha b hb e=>?_⟩
      rw [List.mem_singleton.mp hb] at e
      exact h (e ▸ ha)
def SetT (prog:Program) (w:World) (h:Heap) (a:Addr) (ss:List Str) (ld:Bool):Prop:=∃ o es ep t,h.get? a = some o∧o.ExactSet∧o.data = .set es ep t∧ElemsOf (strKind prog w) es.toList∧(es.toList.map fun e=>keyOf e.2).Perm ss∧t.fits es.size = true∧t.led = ld∧(es.size ≠ 0→t.plain = false)
theorem key_is {prog:Program} {w:World} {k:Str} {v:Value} (h:(strKind prog w).is k v = true):keyOf v = k:=by
  obtain ⟨t,rfl⟩:=Value.isStrOf_shape h
  rfl
section
variable {prog:Program} {w:World} {A:Around} {R:Result→Shared→Prop} {I:Addr} {fp wr:List Addr} {G:Array GenState→Array GenState→Prop} {n:Nat} {P:Nat→Value→Prop} {St:Nat→Shared→Prop}
theorem SetT.keep {h h':Heap} {a:Addr} {ss:List Str} {ld:Bool} (x:SetT prog w h a ss ld) (k:∀ o,h.get? a = some o→h'.get? a = some o):SetT prog w h' a ss ld:=by
  obtain ⟨o,es,ep,t,ho,rest⟩:=x
  exact ⟨o,es,ep,t,k o ho,rest⟩
theorem loopT (W:WalksS prog w A.in1 I fp wr G n P St) (S:Addr) (hSf:S ∉ fp) (val:Nat→Str) (hval:∀ i v,P i v→∃ t,v = .str (val i) t) (hb:n + 1 < scanBound) (ld:Bool) :
    ∀ (k i:Nat) (s:Shared),n - i = k→i ≤ n→St i s→SetT prog w s.heap S (dedN val i) ld→
      (∀ s',Moved (S :: wr) G s s'→SetT prog w s'.heap S (dedN val n) ld→R (.ok (.ret .none)) s')→
      codeAny (model prog w) A (.builtin "set.update.loop" ⟨[.ref S,.ref I],[]⟩) R s:=by
  have hSw:S ∉ wr:=fun h=>hSf (W.sub _ h)
  have hsub:∀ b ∈ wr,b ∈ S :: wr:=fun b hb=>List.mem_cons_of_mem _ hb
  intro k
  induction k with
  | zero=>
    intro i s hk hi hst hS hR
    have hin:i = n:=by omega
    subst hin
    refine codeAny_builtin F.entry_set_update_loop ?_
    rw [Around.under_plainId F.plain_set_update_loop _]
    show wpAny _ A.in1 (pyNext (.ref I) >>= _) _ _ s
    refine wpAny_bind (W.done s _ _ hst fun s' hm=>?_)
    show wpAny _ A.in1 (ret Value.none) _ _ s'
    exact wpAny_pure (hR s' (hm.mono hsub) (hS.keep fun o e=>hm.heap S o hSw e))
  | succ k ih=>
    intro i s hk hi hst hS hR
    have hlt:i < n:=by omega
    refine codeAny_builtin F.entry_set_update_loop ?_
    rw [Around.under_plainId F.plain_set_update_loop _]
    show wpAny _ A.in1 (pyNext (.ref I) >>= _) _ _ s
    refine wpAny_bind (W.item i s _ _ hlt hst fun v s' hP hst' hm=>?_)
    obtain ⟨t,rfl⟩:=hval i v hP
    obtain ⟨o,es,ep,tb,ho,hex,hd,hel,hp,hf,hl,hpl⟩:=hS.keep (h':=s'.heap) fun o e=>hm.heap S o hSw e
    have esz:es.size = (dedN val i).length:=by rw [← hp.length_eq,List.length_map,Array.length_toList]
    have dl:=dedN_len val i
    show wpAny _ A.in1 (holding [Value.str (val i) t] (setAdd S (.str (val i) t)) >>= _) _ _ s'
    refine wpAny_bind (wpAny_holding ?_)
    unfold setAdd
    refine wpAny_holding ?_
    refine wpAny_bind ((strKind prog w).pyHash (k:=val i) (strKind_is _ _ _ _) ?_)
    have iff:val i ∈ dedN val i ↔ ∃ e ∈ es.toList,(strKind prog w).is (val i) e.2 = true:=by
      rw [← hp.mem_iff,List.mem_map]
      constructor
      · rintro ⟨e,he,ek⟩
        obtain ⟨⟨k',hk',_⟩,_⟩:=hel e he
        rw [← key_is hk',ek] at hk'
        exact ⟨e,he,hk'⟩
      · rintro ⟨e,he,ek⟩
        exact ⟨e,he,key_is ek⟩
    have fin:∀ (h':Heap) (b:Bool),Heap.SameBut S s'.heap h'→SetT prog w h' S (dedN val (i + 1)) ld→wpAny (model prog w) A.in1 (again (Code.builtin "set.update.loop" ⟨[Value.ref S,Value.ref I],[]⟩))
        (fun fin s'=>match fin with | .done f=>R (.ok f) s' | .again c'=>c'.quiet = true∧codeAny (model prog w) A c' R s') (fun e s'=>R (.error e) s') { s' with heap:=h',toks:=s'.toks + 1 }:=fun h' _ hsb hS2=>by
      refine wpAny_pure ⟨plainId_quiet F.plain_set_update_loop _,ih (i + 1) _ (by omega) hlt (W.frame _ s' _ _ hst' (Nat.le_succ _) fun b hb o e=>?_) hS2 fun s'' hm'' hS''=>?_⟩
      · rw [hsb.2 b (fun h:b = S=>hSf (by rw [← h]; exact hb))]; exact e
      · refine hR s'' (Moved.trans W.gtrans ((hm.mono hsub).then_heap (Nat.le_succ _) fun b o hb e=>?_) hm'') hS''
        rw [hsb.2 b (fun h:b = S=>hb (by rw [h]; exact List.mem_cons_self))]; exact e
    refine add_text (s:={ s' with toks:=s'.toks + 1 }) ho hd hel (by omega) hf (fun hx=>?_) (fun hx h' es' ep' t' hsb hg hpm hf' hl' hpl'=>?_)
    · refine fin s'.heap false (Heap.SameBut.refl S s'.heap) ?_
      rw [show dedN val (i + 1) = dedN val i by rw [dedN,if_pos (iff.mpr hx)]]
      exact ⟨o,es,ep,tb,ho,hex,hd,hel,hp,hf,hl,hpl⟩
    · refine fin h' true hsb ?_
      have hn:val i ∉ dedN val i:=fun z=>by
        obtain ⟨e,he,ek⟩:=iff.mp z
        rw [hx e he] at ek
        cases ek
      rw [show dedN val (i + 1) = dedN val i ++ [val i] by rw [dedN,if_neg hn]]
      refine ⟨_,es',ep',t',hg,hex,rfl,(hel.push (strKind_is _ _ _ _) rfl).perm hpm,?_,hf',hl'.trans hl,fun _=>hpl'⟩
      refine (hpm.map _).trans ?_
      rw [List.map_append]
      exact hp.append (List.Perm.refl _)
end
end SetTx
namespace SetTx
open PySem PyProof.Rows
section
variable {prog:Program} {w:World} {A:Around} {E:Value→Shared→Prop} {s:Shared}
def byText (w:World):Bool:=w.params.followText "set-order"
def newSet0 (w:World):Obj:={ cls:=.type "set",dict:=none,data:=.set #[] 0 (.fresh 0 0 (!byText w)) }
theorem new_set (a:Value) {Q₁:Value→Shared→Prop} (h:Q₁ (.ref s.heap.objs.size) { s with heap:=s.heap.push (newSet0 w) }) :
    codeAny (model prog w) A (.call (.builtin "set.__new__") ⟨[.type "set",a],[]⟩) (wants Q₁ E) s:=by
  refine codeAny_of_tree ?_
  show wpAny _ A.in1 (do checkBuiltinCall "set.__new__" ⟨[.type "set", a], []⟩; again (.builtin "set.__new__" ⟨[.type "set", a], []⟩)) _ _ s
  refine wpAny_bind (wpAny_of_eq (PySem.F.newCall_set_1 a) (wpAny_pure ⟨plainId_quiet PySem.F.plain_set_new _,codeAny_builtin PySem.F.entry_set_new ?_⟩))
  rw [Around.under_plainId PySem.F.plain_set_new _]
  unfold Builtin.«set.__new__» Builtin.Frozenset.newClass
  have hsub:=sub_set_self
  obtain ⟨hp,g,d,tk,os⟩:=s
  dsimp only
  wp_walk
  refine wpAny_askSetting (wpAny_pure ?_)
  dsimp only
  simp only [newObj]
  refine wpAny_bind (wpAny_alloc (wpAny_pure ?_))
  exact wpAny_pure h
theorem set0 (h:Heap):SetT prog w (h.push (newSet0 w)) h.objs.size [] (!byText w):=
  ⟨newSet0 w,#[],0,_,Heap.get?_push_size _ rfl,⟨rfl,rfl,rfl⟩,rfl,fun e he=>by simp at he,List.Perm.nil,rfl,rfl,fun z=>absurd rfl z⟩
theorem call_set_texts {l:Addr} {items:Array Value} {val:Nat→Str} {Q:Value→Shared→Prop} (hh:A.handled = none) (hl:s.heap.IsList l items) (hi:∀ (i:Nat) (v:Value),items[i]? = some v→∃ t,v = .str (val i) t) (hb:items.size + 1 < scanBound)
    (h:∀ (h':Heap) (tk:Nat),SetT prog w h' s.heap.objs.size (dedN val items.size) (!byText w)→(∀ b o,b < s.heap.objs.size→s.heap.get? b = some o→h'.get? b = some o)→Q (.ref s.heap.objs.size) { s with heap:=h',toks:=tk }) :
    wpAny (model prog w) A (call (.type "set") [.ref l]) Q E s:=by
  obtain ⟨c,tl,hmro⟩:=PySem.F.called_set.mro
  have hmade:=PySem.F.called_set.made
  have hsub:=PySem.F.called_set.sub
  refine wpAny_call (codeAny_of_tree ?_)
  show wpAny _ _ (callAny (.type "set") _) _ _ _
  refine wpAny_pure ⟨Code.quiet_builtin _ (by decide +kernel),codeAny_builtin PySem.F.entry_type_call ?_⟩
  rw [Around.under_plain (weight_type_call_type "set" [.ref l] []) rfl]
  have h1:=PySem.F.called_set.notType
  have h2:=PySem.F.called_set.canCreate
  have hct:=PySem.F.typeCall_set_1 (.ref l)
  repeat (any_goals (first | assumption | wp_step))
  refine codeAny_mono (new_set (.ref l) (E:=E) (Q₁:=fun obj s₁=>obj = .ref s.heap.objs.size∧s₁ = { s with heap:=s.heap.push (newSet0 w) }) ⟨rfl,rfl⟩) fun r s₁ hr=>?_
  cases r with
  | error e=>exact hr
  | ok fl=>
    cases fl with
    | ret obj=>
      obtain ⟨rfl,rfl⟩:=hr
      have hS:(s.heap.push (newSet0 w)).get? s.heap.objs.size = some (newSet0 w):=Heap.get?_push_size _ rfl
      have hT:Shared.TypeIs { s with heap:=s.heap.push (newSet0 w) } (.ref s.heap.objs.size) "set":=⟨_,hS,rfl⟩
      have hli:=PySem.F.called_set.init.lookup
      have hbi:=PySem.F.called_set.init.bind (.ref s.heap.objs.size)
      repeat (any_goals (first | assumption | wp_step))
      refine codeAny_mono (codeAny_call_builtin (R:=wants (fun r s₂=>r = .none∧∃ h' tk,s₂ = { s with heap:=h',toks:=tk }∧SetT prog w h' s.heap.objs.size (dedN val items.size) (!byText w)∧∀ b o,b < s.heap.objs.size→s.heap.get? b = some o→h'.get? b = some o) E) PySem.F.called_set.init.plain PySem.F.entry_set_init (check_set_init_1 hT ?_)) fun r₂ s₂ hr₂=>?_
      · obtain ⟨ol,hol,hcl,nl,hdl⟩:=hl
        have hlS:l < s.heap.objs.size:=Heap.lt_size hol
        obtain ⟨ocls,odict,odata,oslots⟩:=ol
        simp only at hcl hdl
        subst hcl; subst hdl
        have hol':(s.heap.push (newSet0 w)).get? l = some { cls:=.type "list",dict:=odict,data:=.seq items nl,slots:=oslots }:=Heap.get?_push_of_some _ hol
        have hsls:=PySem.F.sub_list_set
        have hslf:=PySem.F.sub_list_frozenset
        have hne:(Value.type "list" == Value.type "dict") = false:=by decide
        have hl1:(s.heap.push (newSet0 w)).IsList l items:=⟨_,hol',rfl,nl,rfl⟩
        unfold Builtin.«set.__init__» noKeywords Builtin.Frozenset.updateFrom
        generalize hPI:pyIter = PI
        wp_walk
        subst hPI
        refine wpAny_pyIter_list hl1 ?_
        refine wpAny_bind (wpAny_runValue ?_)
        have hh3:A.in1.in1.in1.handled = none:=by simp [hh]
        have hneI:l ≠ (s.heap.push (newSet0 w)).objs.size:=by
          rw [Heap.size_push]; exact Nat.ne_of_lt (Nat.lt_succ_of_lt hlS)
        have hSf:s.heap.objs.size ∉ [(s.heap.push (newSet0 w)).objs.size,l]:=by
          rw [Heap.size_push]; simp only [List.mem_cons,List.not_mem_nil,or_false,not_or]
          exact ⟨Nat.ne_of_lt (Nat.lt_succ_self _),Nat.ne_of_gt hlS⟩
        refine loopT ((Walks.list hh3 _ l hneI items).toS) s.heap.objs.size hSf val hi hb (!byText w) (items.size - 0) 0 _ (by omega) (Nat.zero_le _) ⟨⟨_,Heap.get?_push_size _ rfl,rfl,rfl⟩,(hl1.push _)⟩ ((set0 s.heap).keep fun o e=>Heap.get?_push_of_some _ e) fun s' hm hS'=>?_
        obtain ⟨h',g',d',tk',os'⟩:=s'
        have eg:g' = s.gens:=hm.gens
        have ed:d' = s.drawn:=hm.drawn
        have eo:os' = s.os:=hm.os
        subst eg; subst ed; subst eo
        show wpAny _ _ _ _ _ _
        refine wpAny_pure ?_
        show wpAny _ _ (ret Value.none) _ _ _
        refine wpAny_pure ⟨rfl,h',tk',rfl,hS',fun b o hb e=>?_⟩
        have hb1:b ≠ s.heap.objs.size:=Nat.ne_of_lt hb
        have hb2:b ≠ (s.heap.push (newSet0 w)).objs.size:=by
          rw [Heap.size_push]; exact Nat.ne_of_lt (Nat.lt_succ_of_lt hb)
        exact hm.heap b o (by simp only [List.mem_cons,List.not_mem_nil,or_false,not_or]; exact ⟨hb1,hb2⟩) (Heap.get?_push_of_some _ (Heap.get?_push_of_some _ e))
      · cases r₂ with
        | error e=>exact hr₂
        | ok fl₂=>
          cases fl₂ with
          | ret r=>
            obtain ⟨rfl,h',tk,rfl,hS',hk'⟩:=hr₂
            repeat (any_goals (first | assumption | wp_step))
            exact h _ _ hS' hk'
          | _=>exact hr₂.elim
    | _=>exact hr.elim
end
end SetTx
namespace SetTx
open PySem PyProof.Rows
section
variable {prog:Program} {w:World} {A:Around} {E:Value→Shared→Prop}
theorem get_erase {α:Type}:∀ (l:List α) (i:Nat) (h:i < l.length),(l[i] :: l.eraseIdx i).Perm l
  | x :: l,0,_=>List.Perm.refl _
  | x :: l,i + 1,h=>(List.Perm.swap x (l[i]'(Nat.lt_of_succ_lt_succ h)) (l.eraseIdx i)).trans ((get_erase l i (Nat.lt_of_succ_lt_succ h)).cons x)
theorem chosen {M:Model} {src:Source} {n:Nat} {s:Shared} {Q:Nat→Shared→Prop} (hn:n ≠ 0) (h:∀ i d',i < n→Q i { s with drawn:=d' }):wpAny M A (choose src n) Q E s:=fun _ _ _=>⟨hn,h _ _ (Nat.mod_lt _ (Nat.pos_of_ne_zero hn))⟩
theorem order_any {α:Type}:∀ (n:Nat) (xs:List α) (s:Shared) (Q:List α→Shared→Prop),xs.length = n→(∀ ys d',ys.Perm xs→Q ys { s with drawn:=d' })→wpAny (model prog w) A (drawOrder n xs) Q E s
  | 0,[],s,Q,_,h=>wpAny_pure (h [] s.drawn (List.Perm.refl _))
  | n + 1,x :: xs,s,Q,hl,h=>by
    unfold drawOrder
    refine wpAny_bind ?_
    refine chosen (by simp) fun i d' hi=>?_
    rw [List.getElem?_eq_getElem hi]
    dsimp only
    refine wpAny_bind (order_any n _ _ _ (by rw [List.length_eraseIdx,if_pos hi,hl]; rfl) fun ys d'' hp=>wpAny_pure (h _ _ ?_))
    refine (hp.cons _).trans ?_
    exact get_erase _ _ hi
theorem pick_go {α:Type} (next:Nat→Nat):∀ (fuel k:Nat) (left:List α) (out:Array α),left.length = fuel→(pickOrder.go next fuel k left out).toList.Perm (out.toList ++ left)
  | 0,k,[],out,_=>by simp [pickOrder.go]
  | fuel + 1,k,left,out,hl=>by
    unfold pickOrder.go
    have hi:next k % left.length < left.length:=Nat.mod_lt _ (by omega)
    rw [List.getElem?_eq_getElem hi]
    dsimp only
    refine (pick_go next fuel (k + 1) _ _ (by rw [List.length_eraseIdx,if_pos hi,hl]; rfl)).trans ?_
    rw [Array.toList_push,List.append_assoc]
    exact (List.Perm.refl _).append (get_erase left _ hi)
theorem pick_perm {α:Type} (next:Nat→Nat) (xs:Array α):(pickOrder next xs).toList.Perm xs.toList:=by
  unfold pickOrder
  refine (pick_go next xs.size 0 xs.toList #[] (by simp)).trans ?_
  simp
end
end SetTx
namespace SetTx
open PySem PyProof.Rows
theorem entry_iter:entryFor table "set.__iter__" = some Builtin.«frozenset.__iter__»:=
  entryFor_alias (id':="frozenset.__iter__") (by kernel_rfl) rfl (by decide +kernel) (by kernel_rfl)
theorem slot_next:Slot "set_iterator" "__next__" "set_iterator.__next__":=
  .of (owner := "set_iterator") (n := "__next__") (by rw [typeLookup_type, builtinLookup_eq_fast]; kernel_rfl) (by decide +kernel) (by decide +kernel) (by decide +kernel)
    (by first | exact .inl (by decide +kernel) | exact .inr (by decide +kernel)) (by rw [isSubtype_type]; kernel_rfl)
theorem entry_next:entryFor table "set_iterator.__next__" = some Builtin.«set_iterator.__next__»:=entryFor_of_tree (by kernel_rfl)
section
variable {prog:Program} {w:World} {A:Around} {E:Value→Shared→Prop} {s:Shared}
def itObj (first:Value) (i:Nat) (a:Addr) (n ep:Nat):Obj:={ cls:=.type "set_iterator",data:=.fields #[first,.int i 0,.ref a,.int n 0,.int ep 0] }
theorem iter_set {a:Addr} {o:Obj} {es:Array (Int × Value)} {ep:Nat} {t:SetTable} {Q:Value→Shared→Prop} (ho:s.heap.get? a = some o) (hex:o.ExactSet) (hd:o.data = .set es ep t) (hf:t.fits es.size = true) (hz:es.size < scanBound)
    (h1:(!byText w && (!t.plain && decide (es.size > 1))) = true→∀ (ys:List Nat) d',ys.Perm (List.range es.size)→Q (.ref (s.heap.objs.size + 1)) { s with heap:=(s.heap.push { cls:=.type "tuple",data:=.seq (ys.map fun i=>rawInt (i:Nat)).toArray }).push (itObj (.ref s.heap.objs.size) 0 a es.size ep),drawn:=d' })
    (h2:(!byText w && (!t.plain && decide (es.size > 1))) = false→Q (.ref s.heap.objs.size) { s with heap:=s.heap.push (itObj (rawInt 0) 0 a es.size ep) }) :
    wpAny (model prog w) A (pyIter (.ref a)) Q E s:=by
  have hT:s.TypeIs (.ref a) "set":=⟨o,ho,hex.1⟩
  refine wpAny_pyIter_slot hT PySem.F.slot_set_iter (wpAny_call_entry PySem.F.slot_set_iter hT entry_iter ?_ (PySem.F.args_set_iter_1 _))
  unfold Builtin.«frozenset.__iter__»
  refine wpAny_bind (m:=Builtin.Frozenset.slot0 "__iter__" ⟨[.ref a],[]⟩) (wpAny_pure ?_)
  unfold Builtin.Frozenset.sizeOf
  refine wpAny_bind (wpAny_bind (wpAny_setEntries_of ho hd hf (wpAny_pure ?_)))
  unfold setDrawn setsByText
  refine wpAny_bind (wpAny_bind (wpAny_setState_of ho hd hf (wpAny_bind (wpAny_bind (wpAny_askSetting (wpAny_pure (wpAny_pure ?_)))))))
  dsimp only
  unfold setEpoch
  change wpAny _ _ (if (!byText w && (!t.plain && decide (es.size > 1))) = true then _ else _) _ _ _
  by_cases hc:(!byText w && (!t.plain && decide (es.size > 1))) = true
  · rw [if_pos hc]
    refine wpAny_bind (order_any es.size _ _ _ (by simp) fun ys d' hp=>?_)
    refine wpAny_bind (wpAny_newTuple ?_ (by rw [List.length_map,hp.length_eq,List.length_range]; exact fits_of_scanBound hz))
    refine wpAny_bind (wpAny_bind (wpAny_setState_of (Heap.get?_push_of_some _ ho) hd hf (wpAny_pure ?_)))
    refine wpAny_bind (wpAny_newObj_type (wpAny_pure ⟨_,rfl,"set_iterator",_,⟨_,Heap.get?_push_size _ rfl,rfl⟩,slot_next.lookup,?_⟩))
    have:=h1 hc ys d' hp
    rw [Heap.size_push]
    exact this
  · rw [if_neg hc]
    refine wpAny_bind (wpAny_pure ?_)
    refine wpAny_bind (wpAny_bind (wpAny_setState_of ho hd hf (wpAny_pure ?_)))
    refine wpAny_bind (wpAny_newObj_type (wpAny_pure ⟨_,rfl,"set_iterator",_,⟨_,Heap.get?_push_size _ rfl,rfl⟩,slot_next.lookup,?_⟩))
    exact h2 (by simpa using hc)
end
end SetTx
namespace SetTx
open PySem PyProof.Rows
theorem owner_it:Manifest.owners.lookup (String.ofList ['r','o','t','a','r','e','t','i','_','t','e','s'].reverse) = some Manifest.sig_set_iterator:=by kernel_rfl
theorem args_next (a:Value):argsOk "set_iterator.__next__" ⟨[a],[]⟩:=by
  unfold argsOk; rw [signature?_of (id:="set_iterator.__next__") (n:=['_','_','t','x','e','n','_','_']) (o:=['r','o','t','a','r','e','t','i','_','t','e','s']) (by kernel_rfl) owner_it]; kernel_rfl
section
variable {prog:Program} {w:World} {A:Around} {E:Value→Shared→Prop} {s:Shared}
def IsIt (h:Heap) (it:Addr) (first:Value) (i:Nat) (a:Addr) (n ep:Nat):Prop:=∃ o,h.get? it = some o∧o.cls = .type "set_iterator"∧o.data = .fields #[first,.int i 0,.ref a,.int n 0,.int ep 0]
theorem next_drawn {it a T:Addr} {i:Nat} {o:Obj} {es:Array (Int × Value)} {ep p:Nat} {t:SetTable} {ps:Array Value} {x:Int × Value} {Q:Option Value→Shared→Prop} (hit:IsIt s.heap it (.ref T) i a es.size ep) (ho:s.heap.get? a = some o) (hd:o.data = .set es ep t) (hf:t.fits es.size = true)
    (hT:s.heap.IsTuple T ps) (hp:ps[i]? = some (rawInt (p:Nat))) (hx:es[p]? = some x)
    (hQ:∀ h',IsIt h' it (.ref T) (i + 1) a es.size ep→Heap.SameBut it s.heap h'→Q (some x.2) { s with heap:=h' }) :
    wpAny (model prog w) A (pyNext (.ref it)) Q E s:=by
  obtain ⟨oi,hoi,hci,hdi⟩:=id hit
  have hTy:s.TypeIs (.ref it) "set_iterator":=⟨oi,hoi,hci⟩
  unfold pyNext
  refine wpAny_bind (wpAny_attempt (wpAny_callSpecial?_slot (name:=Str.ofString "__next__") hTy slot_next (wpAny_call_entry slot_next hTy entry_next ?_ (args_next _))))
  unfold Builtin.«set_iterator.__next__»
  refine wpAny_bind (wpAny_pure ?_)
  refine wpAny_bind (wpAny_fieldsOf hoi hdi ?_)
  dsimp only
  refine wpAny_bind (wpAny_setEntries_of ho hd hf ?_)
  rw [if_neg (by simp)]
  obtain ⟨oT,hoT,hcT,nT,hdT⟩:=hT
  refine wpAny_bind (m:=seqItems? (.ref T)) ?_
  unfold seqItems?
  refine wpAny_bind (wpAny_load hoT ?_)
  rw [hdT]
  refine wpAny_pure ?_
  dsimp only
  rw [Int.toNat_natCast,hp]
  dsimp only [rawInt]
  unfold setNextDrawn
  refine wpAny_bind (wpAny_bind (wpAny_setState_of ho hd hf ?_))
  dsimp only
  rw [if_neg (by simp),Int.toNat_natCast,hx]
  refine wpAny_pure ?_
  refine wpAny_bind (wpAny_setField hoi hdi (by simp) ?_)
  have hit':IsIt (s.heap.update it (Obj.mapFields (·.setIfInBounds 1 (rawInt ((i:Int) + 1))))) it (.ref T) (i + 1) a es.size ep:=
    ⟨_,Heap.get?_update_self _ hoi (Obj.isFreed_of_fields (Obj.data_mapFields hdi _)),(Obj.cls_mapFields ..).trans hci,by rw [Obj.data_mapFields hdi]; simp [rawInt]⟩
  exact wpAny_pure ⟨_,rfl,wpAny_pure (hQ _ hit' (Heap.SameBut.update ..))⟩
theorem stop_drawn {it a T:Addr} {i:Nat} {o:Obj} {es:Array (Int × Value)} {ep:Nat} {t:SetTable} {ps:Array Value} {Q:Option Value→Shared→Prop} (hh:A.handled = none) (hit:IsIt s.heap it (.ref T) i a es.size ep) (ho:s.heap.get? a = some o) (hd:o.data = .set es ep t) (hf:t.fits es.size = true)
    (hT:s.heap.IsTuple T ps) (hp:ps[i]? = none) (hQ:∀ h',Heap.ExtBut it s.heap h'→Q none { s with heap:=h' }):wpAny (model prog w) A (pyNext (.ref it)) Q E s:=by
  obtain ⟨oi,hoi,hci,hdi⟩:=id hit
  have hTy:s.TypeIs (.ref it) "set_iterator":=⟨oi,hoi,hci⟩
  unfold pyNext
  refine wpAny_bind (wpAny_attempt (wpAny_callSpecial?_slot (name:=Str.ofString "__next__") hTy slot_next (wpAny_call_entry slot_next hTy entry_next ?_ (args_next _))))
  unfold Builtin.«set_iterator.__next__»
  refine wpAny_bind (wpAny_pure ?_)
  refine wpAny_bind (wpAny_fieldsOf hoi hdi ?_)
  dsimp only
  refine wpAny_bind (wpAny_setEntries_of ho hd hf ?_)
  rw [if_neg (by simp)]
  obtain ⟨oT,hoT,hcT,nT,hdT⟩:=hT
  refine wpAny_bind (m:=seqItems? (.ref T)) ?_
  unfold seqItems?
  refine wpAny_bind (wpAny_load hoT ?_)
  rw [hdT]
  refine wpAny_pure ?_
  dsimp only
  rw [Int.toNat_natCast,hp]
  dsimp only
  refine wpAny_bind (wpAny_setField hoi hdi (by simp) ?_)
  have ho1:=Heap.get?_update_self (Obj.mapFields (·.setIfInBounds 0 (rawInt 0))) hoi (Obj.isFreed_of_fields (Obj.data_mapFields hdi _))
  refine wpAny_bind (wpAny_setField ho1 (Obj.data_mapFields hdi _) (by simp) ?_)
  refine wpAny_bind ?_
  simp only [newExc,newTuple]
  refine wpAny_bind (wpAny_newObj_type ?_ (by size_fits))
  refine wpAny_bind (m:=firstArgMember _ _) (wpAny_of_eq (a:=Value.none) (by first | rfl | (simp only [firstArgMember]; rfl)) ?_)
  refine wpAny_newObj_type ?_ (by size_fits)
  simp only [raiseNew]
  refine wpAny_bind (wpAny_handled ?_)
  rw [show A.in1.handled = none from hh]
  refine wpAny_bind (wpAny_pure (wpAny_throw ?_))
  refine wpAny_bind (wpAny_isInstance (T:="StopIteration") (b:=true) ⟨_,Heap.get?_push_size _ rfl,rfl⟩ isSubtype_stop ?_)
  exact wpAny_pure (hQ _ ((((Heap.SameBut.update ..).trans (Heap.SameBut.update ..)).extBut.push _).push _))
end
end SetTx
namespace SetTx
open PySem PyProof.Rows
section
variable {prog:Program} {w:World} {A:Around} {E:Value→Shared→Prop} {s:Shared}
theorem next_slot {it a:Addr} {i f f':Nat} {o:Obj} {es:Array (Int × Value)} {ep:Nat} {t:SetTable} {v:Value} {Q:Option Value→Shared→Prop} (hit:IsIt s.heap it (.int f 0) i a es.size ep) (ho:s.heap.get? a = some o) (hd:o.data = .set es ep t) (hf:t.fits es.size = true)
    (hN:∀ (A:Around) (E:Value→Shared→Prop) (Q':Option (Value × Nat)→Shared→Prop),Q' (some (v,f')) s→wpAny (model prog w) A (setNext a f i ep) Q' E s)
    (hQ:∀ h',IsIt h' it (.int f' 0) (i + 1) a es.size ep→Heap.SameBut it s.heap h'→Q (some v) { s with heap:=h' }) :
    wpAny (model prog w) A (pyNext (.ref it)) Q E s:=by
  obtain ⟨oi,hoi,hci,hdi⟩:=id hit
  have hTy:s.TypeIs (.ref it) "set_iterator":=⟨oi,hoi,hci⟩
  unfold pyNext
  refine wpAny_bind (wpAny_attempt (wpAny_callSpecial?_slot (name:=Str.ofString "__next__") hTy slot_next (wpAny_call_entry slot_next hTy entry_next ?_ (args_next _))))
  unfold Builtin.«set_iterator.__next__»
  refine wpAny_bind (wpAny_pure ?_)
  refine wpAny_bind (wpAny_fieldsOf hoi hdi ?_)
  dsimp only
  refine wpAny_bind (wpAny_setEntries_of ho hd hf ?_)
  rw [if_neg (by simp)]
  simp only [Int.toNat_natCast]
  refine wpAny_bind (hN _ _ _ ?_)
  dsimp only
  refine wpAny_bind (wpAny_setField hoi hdi (by simp) ?_)
  have ho1:=Heap.get?_update_self (Obj.mapFields (·.setIfInBounds 0 (rawInt (f':Nat)))) hoi (Obj.isFreed_of_fields (Obj.data_mapFields hdi _))
  have hd1:=Obj.data_mapFields hdi (·.setIfInBounds 0 (rawInt (f':Nat)))
  refine wpAny_bind (wpAny_setField ho1 hd1 (by simp) ?_)
  refine wpAny_pure ⟨_,rfl,wpAny_pure (hQ _ ⟨_,Heap.get?_update_self _ ho1 (Obj.isFreed_of_fields (Obj.data_mapFields hd1 _)),(Obj.cls_mapFields ..).trans ((Obj.cls_mapFields ..).trans hci),by rw [Obj.data_mapFields hd1]; simp [rawInt]⟩ ((Heap.SameBut.update ..).trans (Heap.SameBut.update ..)))⟩
theorem stop_slot {it a:Addr} {i f:Nat} {o:Obj} {es:Array (Int × Value)} {ep:Nat} {t:SetTable} {Q:Option Value→Shared→Prop} (hh:A.handled = none) (hit:IsIt s.heap it (.int f 0) i a es.size ep) (ho:s.heap.get? a = some o) (hd:o.data = .set es ep t) (hf:t.fits es.size = true)
    (hN:∀ (A:Around) (E:Value→Shared→Prop) (Q':Option (Value × Nat)→Shared→Prop),Q' none s→wpAny (model prog w) A (setNext a f i ep) Q' E s)
    (hQ:∀ h',Heap.ExtBut it s.heap h'→Q none { s with heap:=h' }):wpAny (model prog w) A (pyNext (.ref it)) Q E s:=by
  obtain ⟨oi,hoi,hci,hdi⟩:=id hit
  have hTy:s.TypeIs (.ref it) "set_iterator":=⟨oi,hoi,hci⟩
  unfold pyNext
  refine wpAny_bind (wpAny_attempt (wpAny_callSpecial?_slot (name:=Str.ofString "__next__") hTy slot_next (wpAny_call_entry slot_next hTy entry_next ?_ (args_next _))))
  unfold Builtin.«set_iterator.__next__»
  refine wpAny_bind (wpAny_pure ?_)
  refine wpAny_bind (wpAny_fieldsOf hoi hdi ?_)
  dsimp only
  refine wpAny_bind (wpAny_setEntries_of ho hd hf ?_)
  rw [if_neg (by simp)]
  simp only [Int.toNat_natCast]
  refine wpAny_bind (hN _ _ _ ?_)
  dsimp only
  refine wpAny_bind (wpAny_setField hoi hdi (by simp) ?_)
  refine wpAny_bind ?_
  simp only [newExc,newTuple]
  refine wpAny_bind (wpAny_newObj_type ?_ (by size_fits))
  refine wpAny_bind (m:=firstArgMember _ _) (wpAny_of_eq (a:=Value.none) (by first | rfl | (simp only [firstArgMember]; rfl)) ?_)
  refine wpAny_newObj_type ?_ (by size_fits)
  simp only [raiseNew]
  refine wpAny_bind (wpAny_handled ?_)
  rw [show A.in1.handled = none from hh]
  refine wpAny_bind (wpAny_pure (wpAny_throw ?_))
  refine wpAny_bind (wpAny_isInstance (T:="StopIteration") (b:=true) ⟨_,Heap.get?_push_size _ rfl,rfl⟩ isSubtype_stop ?_)
  exact wpAny_pure (hQ _ (((Heap.SameBut.update ..).extBut.push _).push _))
theorem next_byText {a:Addr} {o:Obj} {es:Array (Int × Value)} {ep f i:Nat} {t:SetTable} {Q:Option (Value × Nat)→Shared→Prop} (hb:byText w = true) (ho:s.heap.get? a = some o) (hd:o.data = .set es ep t) (hf:t.fits es.size = true)
    (h:Q (((pickOrder (w.params.setOrder a ep) es)[i]?).map fun e=>(e.2,f)) s):wpAny (model prog w) A (setNext a f i ep) Q E s:=by
  have hb':(model prog w).w.params.followText "set-order" = true:=hb
  unfold setNext setsByText
  refine wpAny_bind (wpAny_setState_of ho hd hf ?_)
  refine wpAny_bind (wpAny_bind (wpAny_askSetting (wpAny_pure ?_)))
  rw [if_pos hb']
  dsimp only
  rw [if_neg (by simp)]
  unfold setWalk setsByText
  refine wpAny_bind (wpAny_bind (wpAny_setState_of ho hd hf ?_))
  refine wpAny_bind (wpAny_bind (wpAny_askSetting (wpAny_pure ?_)))
  rw [if_pos hb']
  refine wpAny_bind (wpAny_askSetting (wpAny_pure ?_))
  exact wpAny_pure h
theorem next_table {a:Addr} {o:Obj} {es:Array (Int × Value)} {ep f i:Nat} {t:SetTable} {Q:Option (Value × Nat)→Shared→Prop} (hb:byText w = false) (hl:t.led = true) (hz:es.size ≤ 1) (ho:s.heap.get? a = some o) (hd:o.data = .set es ep t) (hf:t.fits es.size = true)
    (h:Q (match es[SetTable.below t.place f]?,t.place[SetTable.below t.place f]? with | some (_,x),some j=>some (x,j + 1) | _,_=>none) s):wpAny (model prog w) A (setNext a f i ep) Q E s:=by
  have hb':¬ (model prog w).w.params.followText "set-order" = true:=by
    intro z
    rw [show byText w = true from z] at hb
    cases hb
  unfold setNext setsByText
  refine wpAny_bind (wpAny_setState_of ho hd hf ?_)
  refine wpAny_bind (wpAny_bind (wpAny_askSetting (wpAny_pure ?_)))
  rw [if_neg hb']
  dsimp only
  change wpAny _ _ (if (!t.plain && decide (es.size > 1)) = true then _ else _) _ _ _
  rw [if_neg (by rw [decide_eq_false (show ¬ es.size > 1 by omega),Bool.and_false]; exact Bool.false_ne_true)]
  refine wpAny_bind ?_
  change wpAny _ _ (if (!t.led && !es.isEmpty) = true then _ else _) _ _ _
  rw [if_neg (by rw [hl]; exact Bool.false_ne_true)]
  exact wpAny_pure (wpAny_pure h)
end
end SetTx
namespace SetTx
open PySem PyProof.Rows
theorem slot_self:Slot "set_iterator" "__iter__" "set_iterator.__iter__":=
  .of (owner := "set_iterator") (n := "__iter__") (by rw [typeLookup_type, builtinLookup_eq_fast]; kernel_rfl) (by decide +kernel) (by decide +kernel) (by decide +kernel)
    (by first | exact .inl (by decide +kernel) | exact .inr (by decide +kernel)) (by rw [isSubtype_type]; kernel_rfl)
theorem entry_self:entryFor table "set_iterator.__iter__" = some Builtin.«dict_keyiterator.__iter__»:=
  entryFor_alias (id':="dict_keyiterator.__iter__") (by kernel_rfl) rfl (by decide +kernel) (by kernel_rfl)
theorem args_self (a:Value):argsOk "set_iterator.__iter__" ⟨[a],[]⟩:=by
  unfold argsOk; rw [signature?_of (id:="set_iterator.__iter__") (n:=['_','_','r','e','t','i','_','_']) (o:=['r','o','t','a','r','e','t','i','_','t','e','s']) (by kernel_rfl) owner_it]; kernel_rfl
section
variable {prog:Program} {w:World} {A:Around} {E:Value→Shared→Prop} {s:Shared}
theorem self_it {it a:Addr} {first:Value} {i n ep:Nat} {Q:Value→Shared→Prop} (hit:IsIt s.heap it first i a n ep) (h:Q (.ref it) s):wpAny (model prog w) A (pyIter (.ref it)) Q E s:=by
  obtain ⟨oi,hoi,hci,hdi⟩:=hit
  have hTy:s.TypeIs (.ref it) "set_iterator":=⟨oi,hoi,hci⟩
  refine wpAny_pyIter_slot hTy slot_self (wpAny_call_entry slot_self hTy entry_self ?_ (args_self _))
  show wpAny _ _ (ret (.ref it)) _ _ s
  exact wpAny_pure ⟨_,rfl,"set_iterator",_,hTy,slot_next.lookup,h⟩
theorem IsIt.at {h h':Heap} {it a:Addr} {first:Value} {i n ep:Nat} (x:IsIt h it first i a n ep) (e:∀ o,h.get? it = some o→h'.get? it = some o):IsIt h' it first i a n ep:=let ⟨o,ho,r⟩:=x; ⟨o,e _ ho,r⟩
theorem walk_text {a I:Addr} {o:Obj} {es:Array (Int × Value)} {ep:Nat} {t:SetTable} (hh:A.handled = none) (hb:byText w = true) (hne:a ≠ I) (hd:o.data = .set es ep t) (hf:t.fits es.size = true) :
    Walks prog w A I [I,a] [I] es.size (fun i v=>((pickOrder (w.params.setOrder a ep) es).toList.map (·.2))[i]? = some v) (fun i h=>IsIt h I (.int (0:Nat) 0) i a es.size ep∧h.get? a = some o):=by
  have pl:(pickOrder (w.params.setOrder a ep) es).size = es.size:=by
    have:=(pick_perm (w.params.setOrder a ep) es).length_eq
    simpa using this
  exact {
  sub:=fun b hb=>by simp at hb; simp [hb]
  frame:=fun _ _ _ st hk=>⟨st.1.at fun o e=>hk I (by simp) o e,hk a (by simp) _ st.2⟩
  item:=fun i s Q E hi st hQ=>by
    have hi':i < (pickOrder (w.params.setOrder a ep) es).size:=by omega
    refine next_slot (f':=0) (v:=(pickOrder (w.params.setOrder a ep) es)[i].2) st.1 st.2 hd hf (fun A E Q' q=>next_byText hb st.2 hd hf (by rw [Array.getElem?_eq_getElem hi']; exact q)) fun h' hit' hs'=>?_
    exact hQ _ h' s.toks (by rw [List.getElem?_map,Array.getElem?_toList,Array.getElem?_eq_getElem hi']; rfl) ⟨hit',hs'.extBut a _ hne st.2⟩ fun b o hb e=>hs'.extBut b o (fun h=>hb (by simp [h])) e
  done:=fun s Q E st hQ=>stop_slot hh st.1 st.2 hd hf (fun A E Q' q=>next_byText hb st.2 hd hf (by rw [Array.getElem?_eq_none (by omega)]; exact q)) fun h' he'=>hQ h' s.toks fun b o hb e=>he' b o (fun h=>hb (by simp [h])) e
  self:=fun _ _ _ _ st hQ=>self_it st.1 hQ }
theorem below1 (j:Nat):SetTable.below #[j] (j + 1) = 1:=by
  simp [SetTable.below,SetTable.below.go]
theorem walk_table {a I:Addr} {o:Obj} {es:Array (Int × Value)} {ep:Nat} {t:SetTable} (hh:A.handled = none) (hb:byText w = false) (hl:t.led = true) (hz:es.size ≤ 1) (hne:a ≠ I) (hd:o.data = .set es ep t) (hf:t.fits es.size = true) :
    Walks prog w A I [I,a] [I] es.size (fun i v=>(es.toList.map (·.2))[i]? = some v) (fun i h=>IsIt h I (.int ((if i = 0 then 0 else t.place.getD 0 0 + 1:Nat):Nat) 0) i a es.size ep∧h.get? a = some o):=by
  have ps:t.place.size = es.size:=by
    unfold SetTable.fits at hf
    rw [Bool.and_eq_true] at hf
    simpa using hf.1
  exact {
  sub:=fun b hb=>by simp at hb; simp [hb]
  frame:=fun _ _ _ st hk=>⟨st.1.at fun o e=>hk I (by simp) o e,hk a (by simp) _ st.2⟩
  item:=fun i s Q E hi st hQ=>by
    have i0:i = 0:=by omega
    subst i0
    obtain ⟨j,hj⟩:∃ j,t.place = #[j]:=by
      have:t.place.size = 1:=by omega
      exact ⟨t.place[0],by apply Array.ext; simp [this]; intro i h1 h2; simp at h2; subst h2; rfl⟩
    obtain ⟨x,hx⟩:∃ x,es[0]? = some x:=⟨es[0],Array.getElem?_eq_getElem (by omega)⟩
    refine next_slot (f':=j + 1) (v:=x.2) st.1 st.2 hd hf (fun A E Q' q=>next_table hb hl hz st.2 hd hf (by
      rw [hj,show SetTable.below #[j] (if 0 = 0 then 0 else (#[j]:Array Nat).getD 0 0 + 1) = 0 from rfl,hx]
      exact q)) fun h' hit' hs'=>?_
    refine hQ _ h' s.toks (by rw [List.getElem?_map,Array.getElem?_toList,hx]; rfl) ⟨?_,hs'.extBut a _ hne st.2⟩ fun b o hb e=>hs'.extBut b o (fun h=>hb (by simp [h])) e
    rw [hj]
    exact hit'
  done:=fun s Q E st hQ=>by
    refine stop_slot hh st.1 st.2 hd hf (fun A E Q' q=>next_table hb hl hz st.2 hd hf ?_) fun h' he'=>hQ h' s.toks fun b o hb e=>he' b o (fun h=>hb (by simp [h])) e
    have out:es[SetTable.below t.place (if es.size = 0 then 0 else t.place.getD 0 0 + 1)]? = none:=by
      by_cases z:es.size = 0
      · exact Array.getElem?_eq_none (by omega)
      · obtain ⟨j,hj⟩:∃ j,t.place = #[j]:=by
          have:t.place.size = 1:=by omega
          exact ⟨t.place[0],by apply Array.ext; simp [this]; intro i h1 h2; simp at h2; subst h2; rfl⟩
        rw [if_neg z,hj,show (#[j]:Array Nat).getD 0 0 = j from rfl,below1]
        exact Array.getElem?_eq_none (by omega)
    rw [out]
    exact q
  self:=fun _ _ _ _ st hQ=>self_it st.1 hQ }
end
end SetTx
namespace SetTx
open PySem PyProof.Rows
section
variable {prog:Program} {w:World} {A:Around} {E:Value→Shared→Prop} {s:Shared}
def byPlace (es:Array (Int × Value)) (p:Nat):Value:=((es[p]?).getD (0,.none)).2
theorem places_all (es:Array (Int × Value)):(List.range es.size).map (byPlace es) = es.toList.map (·.2):=by
  apply List.ext_getElem?
  intro i
  rw [List.getElem?_map,List.getElem?_map]
  by_cases h:i < es.size
  · rw [List.getElem?_range h,List.getElem?_eq_getElem (l:=es.toList) (by rw [Array.length_toList]; exact h)]
    simp [byPlace,h]
  · rw [List.getElem?_eq_none (by simpa using h),List.getElem?_eq_none (l:=es.toList) (by rw [Array.length_toList]; omega)]
    rfl
theorem walk_drawn {a I T:Addr} {o:Obj} {es:Array (Int × Value)} {ep:Nat} {t:SetTable} {ys:List Nat} (hh:A.handled = none) (hne:a ≠ I) (hT:T ≠ I) (hp:ys.Perm (List.range es.size)) (hd:o.data = .set es ep t) (hf:t.fits es.size = true) :
    Walks prog w A I [I,T,a] [I] es.size (fun i v=>(ys.map (byPlace es))[i]? = some v) (fun i h=>IsIt h I (.ref T) i a es.size ep∧h.get? a = some o∧h.IsTuple T (ys.map fun i=>rawInt (i:Nat)).toArray):=by
  have yl:ys.length = es.size:=by rw [hp.length_eq,List.length_range]
  exact {
  sub:=fun b hb=>by simp at hb; simp [hb]
  frame:=fun _ _ _ st hk=>⟨st.1.at fun o e=>hk I (by simp) o e,hk a (by simp) _ st.2.1,by
    obtain ⟨o,ho,r⟩:=st.2.2
    exact ⟨o,hk T (by simp) _ ho,r⟩⟩
  item:=fun i s Q E hi st hQ=>by
    have hi':i < ys.length:=by omega
    have hy:ys[i]? = some ys[i]:=List.getElem?_eq_getElem hi'
    have hlt:ys[i] < es.size:=List.mem_range.mp (hp.mem_iff.mp (List.getElem_mem hi'))
    have hx:es[ys[i]]? = some es[ys[i]]:=Array.getElem?_eq_getElem hlt
    refine next_drawn (p:=ys[i]) (x:=es[ys[i]]) st.1 st.2.1 hd hf st.2.2 (by rw [List.getElem?_toArray,List.getElem?_map,hy]; rfl) hx fun h' hit' hs'=>?_
    exact hQ _ h' s.toks (by rw [List.getElem?_map,hy]; simp [byPlace,hlt]) ⟨hit',hs'.extBut a _ hne st.2.1,st.2.2.extBut hs'.extBut hT⟩ fun b o hb e=>hs'.extBut b o (fun h=>hb (by simp [h])) e
  done:=fun s Q E st hQ=>stop_drawn hh st.1 st.2.1 hd hf st.2.2 (by rw [List.getElem?_toArray]; exact List.getElem?_eq_none (by rw [List.length_map]; omega)) fun h' he'=>hQ h' s.toks fun b o hb e=>he' b o (fun h=>hb (by simp [h])) e
  self:=fun _ _ _ _ st hQ=>self_it st.1 hQ }
end
end SetTx
namespace SetTx
open PySem PyProof.Rows
section
variable {prog:Program} {w:World} {A:Around} {E:Value→Shared→Prop} {s:Shared}
theorem iter_walk {a:Addr} {o:Obj} {es:Array (Int × Value)} {ep:Nat} {t:SetTable} {Q:Value→Shared→Prop} (B:Around) (hB:B.handled = none) (ho:s.heap.get? a = some o) (hex:o.ExactSet) (hd:o.data = .set es ep t) (hf:t.fits es.size = true) (hz:es.size < scanBound) (hl:t.led = !byText w) (hpl:es.size ≠ 0→t.plain = false)
    (h:∀ (I:Addr) (h1:Heap) (d':Drawn) (fp:List Addr) (vs:List Value) (St:Nat→Heap→Prop),Walks prog w B I fp [I] es.size (fun i v=>vs[i]? = some v) St→vs.Perm (es.toList.map (·.2))→St 0 h1→(∀ b o,s.heap.get? b = some o→h1.get? b = some o)→(∀ b ∈ fp,b = a ∨ s.heap.objs.size ≤ b)→s.heap.objs.size ≤ I→Q (.ref I) { s with heap:=h1,drawn:=d' }) :
    wpAny (model prog w) A (pyIter (.ref a)) Q E s:=by
  have ha:=Heap.lt_size ho
  refine iter_set ho hex hd hf hz (fun hc ys d' hp=>?_) (fun hc=>?_)
  · refine h (s.heap.objs.size + 1) _ d' _ _ _ (walk_drawn (T:=s.heap.objs.size) hB (Nat.ne_of_lt (Nat.lt_succ_of_lt ha)) (Nat.ne_of_lt (Nat.lt_succ_self _)) hp hd hf) ((hp.map _).trans (by rw [places_all])) ⟨⟨itObj (.ref s.heap.objs.size) 0 a es.size ep,?_,rfl,rfl⟩,?_,?_⟩ (fun b o e=>Heap.get?_push_of_some _ (Heap.get?_push_of_some _ e)) (fun b hb=>?_) (by omega)
    · have:=Heap.get?_push_size (s.heap.push { cls:=.type "tuple",data:=.seq (ys.map fun i=>rawInt (i:Nat)).toArray }) (o:=itObj (.ref s.heap.objs.size) 0 a es.size ep) rfl
      rw [Heap.size_push] at this
      exact this
    · exact Heap.get?_push_of_some _ (Heap.get?_push_of_some _ ho)
    · exact ⟨_,Heap.get?_push_of_some _ (Heap.get?_push_size _ rfl),rfl,_,rfl⟩
    · simp only [List.mem_cons,List.not_mem_nil,or_false] at hb
      rcases hb with rfl | rfl | rfl
      · right; omega
      · right; omega
      · left; rfl
  · have fpk:∀ b ∈ [s.heap.objs.size,a],b = a ∨ s.heap.objs.size ≤ b:=fun b hb=>by
      simp only [List.mem_cons,List.not_mem_nil,or_false] at hb
      rcases hb with rfl | rfl
      · right; omega
      · left; rfl
    cases hb:byText w with
    | true=>
      exact h s.heap.objs.size _ s.drawn _ _ _ (walk_text hB hb (Nat.ne_of_lt ha) hd hf) ((pick_perm _ es).map _) ⟨⟨_,Heap.get?_push_size _ rfl,rfl,rfl⟩,Heap.get?_push_of_some _ ho⟩ (fun b o e=>Heap.get?_push_of_some _ e) fpk (Nat.le_refl _)
    | false=>
      have hz1:es.size ≤ 1:=by
        by_cases z:es.size ≤ 1
        · exact z
        · rw [hb,hpl (by omega),decide_eq_true (show es.size > 1 by omega)] at hc
          cases hc
      exact h s.heap.objs.size _ s.drawn _ _ _ (walk_table hB hb (by rw [hl,hb]; rfl) hz1 (Nat.ne_of_lt ha) hd hf) (List.Perm.refl _) ⟨⟨_,Heap.get?_push_size _ rfl,rfl,rfl⟩,Heap.get?_push_of_some _ ho⟩ (fun b o e=>Heap.get?_push_of_some _ e) fpk (Nat.le_refl _)
end
end SetTx
namespace SetTx
open PySem PySem.W PySem.Calls PyProof.Rows
section
variable {prog:Program} {w:World} {A:Around} {E:Value→Shared→Prop} {s:Shared}
theorem hint_set {r:Addr} {Q:Bool→Shared→Prop} (hT:s.TypeIs (.ref r) "set") (h:Q false s):wpAny (model prog w) A (Builtin.List.listLengthHint (.ref r)) Q E s:=by
  unfold Builtin.List.listLengthHint
  refine wpAny_bind (wpAny_specialOf hT PySem.F.slot_set_len.lookup ?_)
  generalize hid:("set.__len__":String) = id0
  wp_delta
  rw [show splitId id0 = some ("set", "__len__") from by subst hid; decide +kernel]
  subst hid
  refine wpAny_bind (wpAny_isInstance (T:="set") (b:=true) hT (by rw [isSubtype_type]; kernel_rfl) ?_)
  refine wpAny_ite_split (fun hab=>absurd hab (by decide)) (fun _=>?_)
  refine wpAny_ite_split (fun _=>?_) (fun hab=>absurd (by decide +kernel) hab)
  refine wpAny_bind (wpAny_typeOf hT ?_)
  exact wpAny_pure h
theorem extend_set {a:Addr} {o:Obj} {es:Array (Int × Value)} {ep:Nat} {t:SetTable} {R:Result→Shared→Prop} (hh:A.handled = none) (ho:s.heap.get? a = some o) (hex:o.ExactSet) (hd:o.data = .set es ep t) (hf:t.fits es.size = true) (hz:es.size < scanBound) (hl:t.led = !byText w) (hpl:es.size ≠ 0→t.plain = false)
    (S:Addr) (hSa:S ≠ a) (res:Value) (c₀:Nat) (hS:s.heap.get? S = some { cls:=.type "list",data:=.seq #[] c₀ })
    (hR:∀ h' tk d' acc' c',(∀ b o,b ≠ S→s.heap.get? b = some o→h'.get? b = some o)→h'.get? S = some { cls:=.type "list",dict:=none,data:=.seq acc' c',slots:=#[] }→acc'.toList.Perm (es.toList.map (·.2))→R (.ok (.ret res)) { s with heap:=h',toks:=tk,drawn:=d' }) :
    wpAny (model prog w) A.in1 (Builtin.List.listExtendWith (.ref S) (.ref a) res)
      (fun fin s'=>match fin with | .done f=>R (.ok f) s' | .again c'=>c'.quiet = true∧codeAny (model prog w) A c' R s') (fun e s'=>R (.error e) s') s:=by
  have hT:s.TypeIs (.ref a) "set":=⟨o,ho,hex.1⟩
  have hn:es.size ≤ sizeLine:=fits_of_scanBound hz
  have hSlt:=Heap.lt_size hS
  unfold Builtin.List.listExtendWith
  refine wpAny_bind (wpAny_typeOf hT ?_)
  have h1:Builtin.List.listSameRef (.ref S) (.ref a) = false:=by simp [Builtin.List.listSameRef,hSa]
  simp only [h1, show (Value.type "set" == Value.type "list") = false by decide, show (Value.type "set" == Value.type "tuple") = false by decide, Bool.or_false, Bool.false_eq_true, if_false]
  refine wpAny_bind (iter_walk A.in1 hh ho hex hd hf hz hl hpl fun I h1 d' fp vs St W hp st hk hfp hI=>?_)
  have hSI:S ≠ I:=Nat.ne_of_lt (Nat.lt_of_lt_of_le hSlt hI)
  have hSf:S ∉ fp:=fun z=>by
    rcases hfp S z with e | e
    · exact hSa e
    · exact absurd hSlt (Nat.not_lt.mpr e)
  have fin:∀ acc:Array Value,ItemsOf (fun i v=>vs[i]? = some v) acc es.size→acc.toList.Perm (es.toList.map (·.2)):=fun acc hacc=>by
    have:acc.toList = vs:=by
      apply List.ext_getElem?
      intro i
      have vl:vs.length = es.size:=by rw [hp.length_eq,List.length_map,Array.length_toList]
      by_cases hi:i < es.size
      · have hi2:i < acc.toList.length:=by rw [Array.length_toList,hacc.1]; exact hi
        have:=hacc.2 i acc.toList[i] (by rw [← Array.getElem?_toList]; exact List.getElem?_eq_getElem hi2)
        rw [this]; exact List.getElem?_eq_getElem hi2
      · rw [List.getElem?_eq_none (by rw [Array.length_toList,hacc.1]; omega),List.getElem?_eq_none (by omega)]
    rw [this]; exact hp
  have key:∀ (h:Heap) (c₁ tk:Nat),St 0 h→(∀ b o,b ≠ S→s.heap.get? b = some o→h.get? b = some o)→
      h.get? S = some { cls := .type "list", data := .seq #[] c₁ } → codeAny (model prog w) A (.builtin "list.extend.loop" ⟨[.ref S, .ref I, res], []⟩) R { s with heap := h, toks := tk, drawn := d' } := by
    intro h c₁ tk hst hk hS₁
    refine codeAny_extend_loopS W.toS hn S hSf res es.size 0 _ #[] c₁ rfl (Nat.zero_le _) hst hS₁ (ItemsOf.nil _) fun s' acc' c' hm hS' hacc=>?_
    rw [Moved.eq_with hm]
    refine hR s'.heap s'.toks d' acc' c' (fun b o hb e=>hm.heap b o (fun hmem=>?_) (hk b o hb e)) hS' (fin acc' hacc)
    rcases List.mem_cons.mp hmem with e' | hmem
    · exact hb e'
    · exact absurd (Heap.lt_size e) (by rw [List.mem_singleton.mp hmem]; exact Nat.not_lt.mpr hI)
  have hS₁:=hk _ _ hS
  refine wpAny_bind (wpAny_holding (hint_set ⟨o,hk _ _ ho,hex.1⟩ ?_))
  refine wpAny_ite_split (fun _=>?_) (fun _=>wpAny_pure ⟨plainId_quiet PySem.F.plain_extend_loop _,key _ c₀ _ st (fun b o _ e=>hk _ _ e) hS₁⟩)
  refine wpAny_bind (wpAny_rule ?_)
  refine wpAny_bind ?_
  show wpAny _ _ (updateSeq S (·.push .none) >>= fun _=>updateSeq S (·.pop)) _ _ _
  refine wpAny_bind (wpAny_updateSeq hS₁ rfl ?_)
  have hS₂:=Heap.get?_update_self (Obj.mapSeq (·.push Value.none)) hS₁ rfl
  refine wpAny_updateSeq (hz:=by seq_fits) hS₂ rfl ?_
  have hS₃:=Heap.get?_update_self (Obj.mapSeq (·.pop)) hS₂ rfl
  refine wpAny_pure ⟨plainId_quiet PySem.F.plain_extend_loop _,key _ _ _ ?_ (fun b o hb e=>?_) hS₃⟩
  · refine W.frame 0 _ _ st fun b hb o e=>?_
    have hbS:b ≠ S:=fun h=>hSf (h ▸ hb)
    exact (Heap.get?_update_other _ _ (Ne.symm hbS)).trans ((Heap.get?_update_other _ _ (Ne.symm hbS)).trans e)
  · exact (Heap.get?_update_other _ _ (Ne.symm hb)).trans ((Heap.get?_update_other _ _ (Ne.symm hb)).trans (hk _ _ e))
theorem collect_set {a:Addr} {ss:List Str} {R:List Value→Shared→Prop} (hh:A.handled = none) (hS:SetT prog w s.heap a ss (!byText w)) (hz:ss.length < scanBound)
    (h:∀ (h':Heap) (tk:Nat) (d':Drawn) (acc:List Value),(∀ b o,s.heap.get? b = some o→h'.get? b = some o)→(acc.map keyOf).Perm ss→(∀ v ∈ acc,∃ t,v = .str (keyOf v) t)→R acc { s with heap:=h',toks:=tk,drawn:=d' }) :
    wpAny (model prog w) A (collect (.ref a)) R E s:=by
  obtain ⟨o,es,ep,t,ho,hex,hd,hel,hp,hf,hl,hpl⟩:=hS
  have esz:es.size = ss.length:=by rw [← hp.length_eq,List.length_map,Array.length_toList]
  have ha:=Heap.lt_size ho
  unfold collect
  refine wpAny_bind (wpAny_runValue (codeAny_builtin entry_proto_collect' ?_))
  rw [Around.under_plainId PySem.F.plain_proto_collect _]
  show wpAny _ A.in1 (newList [] >>= fun l=>again (.builtin "list.__iadd__" ⟨[l,.ref a],[]⟩)) _ _ s
  refine wpAny_bind (wpAny_newObj_type ?_)
  refine wpAny_pure ⟨plainId_quiet PySem.F.plain_list_iadd _,codeAny_builtin entry_list_iadd' ?_⟩
  rw [Around.under_plainId PySem.F.plain_list_iadd _]
  have hS₁ : (s.heap.push { cls := .type "list", data := .seq ([] : List Value).toArray }).get? s.heap.objs.size = some { cls := .type "list", data := .seq #[] } := Heap.get?_push_size _ rfl
  show wpAny _ A.in1 (Builtin.List.listExtendWith (.ref s.heap.objs.size) (.ref a) (.ref s.heap.objs.size)) _ _ _
  have key:=extend_set (prog:=prog) (w:=w) (A:=A) (s:={ s with heap:=s.heap.push { cls:=.type "list",data:=.seq ([]:List Value).toArray } })
    (R:=fun (q:Result) (s':Shared)=>∃ (h':Heap) (tk:Nat) (d':Drawn) (acc':Array Value) (c':Nat),q = .ok (.ret (.ref s.heap.objs.size))∧s' = { s with heap:=h',toks:=tk,drawn:=d' }∧
      (∀ b o,s.heap.get? b = some o→h'.get? b = some o)∧h'.get? s.heap.objs.size = some { cls:=.type "list",dict:=none,data:=.seq acc' c',slots:=#[] }∧acc'.toList.Perm (es.toList.map (·.2)))
    hh (Heap.get?_push_of_some _ ho) hex hd hf (by omega) hl hpl s.heap.objs.size (Nat.ne_of_gt ha) (.ref s.heap.objs.size) 0 hS₁
    (fun h' tk d' acc' c' hk hS' hacc=>⟨h',tk,d',acc',c',rfl,rfl,fun b o e=>hk b o (Nat.ne_of_lt (Heap.lt_size e)) (Heap.get?_push_of_some _ e),hS',hacc⟩)
  have last:∀ (h':Heap) (tk:Nat) (d':Drawn) (acc':Array Value),(∀ b o,s.heap.get? b = some o→h'.get? b = some o)→acc'.toList.Perm (es.toList.map (·.2))→R acc'.toList { s with heap:=h',toks:=tk,drawn:=d' }:=fun h' tk d' acc' hk hacc=>by
    refine h h' tk d' acc'.toList hk ((hacc.map keyOf).trans (by rw [List.map_map]; exact hp)) fun v hv=>?_
    obtain ⟨e,he,rfl⟩:=List.mem_map.mp (hacc.mem_iff.mp hv)
    obtain ⟨⟨k,hk,_⟩,_⟩:=hel e he
    obtain ⟨t,et⟩:=Value.isStrOf_shape hk
    rw [et]
    exact ⟨t,rfl⟩
  refine wpAny_mono key (fun fin s' x=>?_) fun e s' x=>?_
  · cases fin with
    | done f=>
      obtain ⟨h',tk,d',acc',c',e,rfl,hk,hS',hacc⟩:=x
      cases e
      show wpAny _ A (load s.heap.objs.size >>= _) _ _ _
      refine wpAny_bind (wpAny_load hS' ?_)
      exact wpAny_pure (last h' tk d' acc' hk hacc)
    | again c₁=>
      refine ⟨x.1,codeAny_mono x.2 fun q s₂ y=>?_⟩
      obtain ⟨h',tk,d',acc',c',rfl,rfl,hk,hS',hacc⟩:=y
      show wpAny _ A (load s.heap.objs.size >>= _) _ _ _
      refine wpAny_bind (wpAny_load hS' ?_)
      exact wpAny_pure (last h' tk d' acc' hk hacc)
  · obtain ⟨_,_,_,_,_,e,_⟩:=x
    cases e
end
end SetTx
namespace SetTx
open PySem PyProof.Rows PySem.Calls
section
variable {prog:Program} {w:World} {A:Around} {E:Value→Shared→Prop} {s:Shared}
theorem strs_of:∀ {acc:List Value},(∀ v ∈ acc,∃ t,v = .str (keyOf v) t)→StrsAre acc (acc.map keyOf)
  | [],_=>.nil
  | v :: acc,h=>by
    obtain ⟨t,e⟩:=h v List.mem_cons_self
    have ih:=strs_of (acc:=acc) fun u hu=>h u (List.mem_cons_of_mem _ hu)
    rw [e]
    exact .cons _ _ ih
theorem sorted_set {a:Addr} {ss:List Str} {Q:Value→Shared→Prop} (hh:A.handled = none) (hS:SetT prog w s.heap a ss (!byText w)) (h64:ss.length < 64)
    (hQ:∀ (h1 h':Heap) (tk:Nat) (d':Drawn) (e:Nat) (out:Array Value) (ss':List Str),(∀ b o,s.heap.get? b = some o→h1.get? b = some o)→(∀ b o,h1.get? b = some o→h'.get? b = some o)→
      h'.get? h1.objs.size = some (seqObj "list" out e)→StrsAre out.toList ss'→ss'.Perm ss→sortedS ss' = true→Q (.ref h1.objs.size) { s with heap:=h',toks:=tk,drawn:=d' }) :
    wpAny (model prog w) A (call (.builtin "sorted") [.ref a]) Q E s:=by
  refine call_function_entry kind_sorted plain_sorted entry_sorted (args_sorted1 _) ?_
  unfold Builtin.«sorted»
  refine wpAny_bind (m:=checkCount "sorted" 1 1 _) (wpAny_pure ?_)
  refine wpAny_bind (collect_set (A:=A.in1) hh hS (by unfold scanBound; omega) fun h1 tk d' acc hk hp hv=>?_)
  have hl:acc.length = ss.length:=by rw [← hp.length_eq,List.length_map]
  have hT:=strs_of hv
  refine wpAny_bind (wpAny_newList ?_ (by rw [hl,sizeLine_eq]; omega))
  have ho : (h1.push { cls := .type "list", data := .seq acc.toArray }).get? h1.objs.size = some (seqObj "list" acc.toArray 0) := Heap.get?_push_size _ rfl
  refine wpAny_bind (wpAny_holding (wpAny_call_entry slot_list_sort ⟨_,ho,rfl⟩ entry_list_sort (list_sort_treeK strKind_oneLt ho hT.keysOf (fun v₁ v₂ rest e=>keyKind_strs (by rw [← e]; exact hT)) (by rw [hl]; exact h64) fun st' a1 a2=>⟨_,rfl,?_⟩) (args_list_sort _)))
  obtain ⟨ss',q1,q2,q3⟩:=sorted_out_str hT a1 a2
  obtain ⟨e,he⟩:=sortedHeap_at (out:=(arrOf st').map (·.2)) ho
  refine wpAny_pure ⟨_,rfl,hQ h1 _ tk d' e _ ss' hk (fun b o hb=>?_) he q1 (q2.trans hp) q3⟩
  have hlt:=Heap.lt_size hb
  rw [sortedHeap_old (Nat.ne_of_lt hlt) (by rw [size_push']; exact Nat.lt_succ_of_lt hlt)]
  exact Heap.get?_push_of_some _ hb
end
end SetTx
namespace L2
open PySem PySem.Spec PyProof.Rows
section
variable {X:Cx}
def tListRev (K:PySem.W.Frag) (ta:TA):TE:=fun σ H Q=>ta σ H fun vs H1=>∃ a xs,vs = [.ref a]∧SqL K H1 a xs∧∀ p,H1 p = none→Q (.ref p) (upd H1 p (.lst xs.reverse))
theorem rev_items {its:List Value} {acc:Array Value} (h:ItemsOf (fun i v=>its.toArray[its.toArray.size - 1 - i]? = some v) acc its.toArray.size):acc.toList = its.reverse:=by
  obtain ⟨h1,h2⟩:=h
  have hz:acc.toList.length = its.length:=by rw [Array.length_toList,h1]; simp
  apply List.ext_getElem?
  intro i
  by_cases hi:i < its.length
  · obtain ⟨v,hv⟩:∃ v,acc.toList[i]? = some v:=⟨_,List.getElem?_eq_getElem (by omega)⟩
    have:=h2 i v (by rw [← Array.getElem?_toList]; exact hv)
    rw [hv,List.getElem?_reverse hi,← this]
    simp
  · rw [List.getElem?_eq_none (by omega),List.getElem?_eq_none (by rw [List.length_reverse]; omega)]
theorem pe_listRev (hc : X.calm = true) {a : Expr} {ta : TA} {p pos p2 pos2 : Pos} (hgl : Gl X "list") (hml : X.mg "list" = none) (hg : Gl X "reversed") (hm : X.mg "reversed" = none) (ha : PA X [a] ta)
    (hs:starEach [a] X.env = (false,eval a X.env) :: starEach [] X.env) (hs2:((backTo pos2 (starEach [] X.env)).any fun x=>x.fst) = false)
    (he : starEach [.Call (.Name "reversed" p2) [a] [] pos2] X.env = (false, eval (.Call (.Name "reversed" p2) [a] [] pos2) X.env) :: starEach [] X.env) (hpl : (backTo pos (starEach [] X.env)).any (·.1) = false) :
    PE X (.Call (.Name "list" p) [.Call (.Name "reversed" p2) [a] [] pos2] [] pos) (tListRev X.K ta):=by
  intro pins s σ H Q I h
  refine wpAny_Call_Name_kw (ld_blt I hgl hml PyProof.Rows.Boot.«list» ?_ (by decide) (by decide))
  refine PyProof.Rows.callWith_type1 ?_ he hpl
  rw [he]
  refine Calls.spliced_cons ?_
  refine Call_ (ld_blt I hg hm boot_reversed (PyProof.Rows.callWith_type1 (thn (ha pos2 pins s σ H _ I h) fun us s1 ⟨vs,H1,I1,r1,q1⟩=>?_) hs hs2))
  obtain ⟨l,xs,e,hq,q⟩:=q1
  subst e
  cases r1 with
  | cons r rr=>
    cases rr
    cases r
    obtain ⟨its,rv,pl,hz⟩:=I1.list hq
    have hl:=rv.length
    refine call_reversed_list pl.isList ?_
    refine Calls.spliced_nil ?_
    have hlt:l < s1.heap.objs.size:=let ⟨_,e,_⟩:=pl.isList; Heap.lt_size e
    refine Rev.call_list (I1.ok.hd hc) (l:=l) (items:=its.toArray) ⟨_,Heap.get?_push_size _ rfl,rfl,rfl⟩ (pl.isList.at fun o e=>Heap.get?_push_of_some _ e) (Nat.ne_of_lt hlt) (by rw [List.size_toArray]; omega) fun h' tk acc c' hk ho hI=>?_
    have e:=rev_items hI
    have hp:s1.heap.objs.size ≤ (s1.heap.push (revObj l ((its.toArray.size:Int) - 1))).objs.size:=by rw [size_push']; exact Nat.le_succ _
    refine ⟨.ref _,_,I1.laid (t':=tk) (o:=.lst xs.reverse) (fun b o eb=>hk b o (Nat.ne_of_lt (Heap.lt_size eb)) (Heap.get?_push_of_some _ eb)) hp ⟨?_,acc.toList,c',by rw [e]; exact rv.reverse,by simpa using ho⟩,rfl,q _ (I1.hok.fresh hp)⟩
    rw [List.length_reverse]
    omega
theorem ke_listRev (hc : X.calm = true) {a : Expr} {p pos p2 pos2 : Pos} {ta : TA} (hml : X.mg "list" = none) (hm : X.mg "reversed" = none) (ha : QA X [a] ta) (hgl : X.env.kindOf "list" = some .globalImplicit := by kernel_rfl) (hg : X.env.kindOf "reversed" = some .globalImplicit := by kernel_rfl)
    (hs:starEach [a] X.env = (false,eval a X.env) :: starEach [] X.env:=by kernel_rfl) (hs2:((backTo pos2 (starEach [] X.env)).any fun x=>x.fst) = false:=by kernel_rfl)
    (he : starEach [.Call (.Name "reversed" p2) [a] [] pos2] X.env = (false, eval (.Call (.Name "reversed" p2) [a] [] pos2) X.env) :: starEach [] X.env := by kernel_rfl) (hpl : (backTo pos (starEach [] X.env)).any (·.1) = false := by kernel_rfl) :
    QE X (.Call (.Name "list" p) [.Call (.Name "reversed" p2) [a] [] pos2] [] pos) (tListRev X.K ta):=⟨pe_listRev hc hgl hml hg hm ha.p hs hs2 he hpl⟩
abbrev rInD (n:Bool):R2:=fun y x H Q=>∃ a o,x = .ref a∧DGet H a y o∧Q (.bl (o.isSome != n)) H
theorem op_notInD (hu:X.A.units + 64 < cLine):OpR X (compareOp .NotIn) (rInD true):=by
  intro pins s σ H y x u v Q I ry rx h
  obtain ⟨a,o,rfl,g,q⟩:=h
  obtain rfl:v = Value.ref a:=rx
  exact d_notIn (by omega) I g ry fun s' I'=>⟨.bl (!o.isSome),H,I',rfl,by cases o <;> exact q⟩
theorem ke_dget {o i:Expr} {td ty:TE} {pos:Pos} (hu:X.A.units + 64 < cLine) (ho:QE X o td) (hi:QE X i ty) (hs:NoSl i:=by intro _ _; kernel_rfl):QE X (.Subscript o i pos) (tDGet td ty):=⟨pe_dget (by omega) ho.p hi.p hs⟩
theorem ks_dput {o i value:Expr} {td ty tv:TE} {pos pos':Pos} (hu:X.A.units + 64 < cLine) (ho:QE X o td) (hi:QE X i ty) (hv:QE X value tv) (hs:swapsWith value (some (.Subscript o i pos')) pos.line X.env = pure false:=by kernel_rfl) :
    QS X (.Assign [.Subscript o i pos'] value pos) (sDPut td ty tv):=⟨ps_dput (by omega) ho.p hi.p hv.p hs⟩
theorem ke_dnewK {pos:Pos}:QE X (.Dict [] [] pos) tDNewK:=⟨pe_dnewK⟩
theorem ke_dnewT {pos:Pos}:QE X (.Dict [] [] pos) tDNewT:=⟨pe_dnewT⟩
abbrev rSortedD:List V→Hp→VK→Prop:=fun xs H Q=>∃ p,∃ kvs:List (List Nat × V),xs = [.ref p]∧H p = some (.dK (kvs.map fun kv=>(Key.inr (txt kv.1),kv.2)))∧kvs.length < 64∧
  ∀ l,∀ zs:List (List Nat),H l = none→zs.Perm (kvs.map (·.1))→zs.Pairwise (· ≤ ·)→Q (.ref l) (upd H l (.lst (zs.map strV)))
theorem strs_keys {P:Program} {w:World}:∀ {kvs:List (List Nat × V)} {vs:List (Key × Value)},KV (kvs.map fun kv=>(Key.inr (txt kv.1),kv.2)) vs→∀ us:List Value,us.length = vs.length→(∀ (j:Nat) (v:Value),us[j]? = some v→∃ (k:Key) (x:Value),vs[j]? = some (k,x)∧(mixKind P w).is k v = true)→StrsAre us ((kvs.map (·.1)).map txt)
  | [],_,r,us,h1,h2=>by
    cases r
    have:us = []:=List.length_eq_zero_iff.mp (by simpa using h1)
    subst this
    exact .nil
  | kv :: kvs,_,r,us,h1,h2=>by
    rw [List.map_cons] at r
    cases r with
    | @cons p q ps qs hh tt=>
      cases us with
      | nil=>simp at h1
      | cons v us=>
        obtain ⟨k,x,e1,e2⟩:=h2 0 v rfl
        simp at e1
        subst e1
        have e3:Key.inr (txt kv.1) = k:=hh.1
        subst e3
        rcases keyIs_shape (show keyIs (Key.inr (txt kv.1)) v = true from e2) with ⟨i,t,e,_⟩ | ⟨y,t,e,rfl⟩ | ⟨e,_⟩
        · cases e
        · injection e with e
          subst e
          exact .cons _ _ (strs_keys tt us (by simpa using h1) fun j v hj=>by simpa using h2 (j + 1) v (by simpa using hj))
        · cases e
theorem call_sortedD (hc:X.calm = true):CallR X (.builtin "sorted") rSortedD:=by
  intro pins s σ H xs us Q I r h
  obtain ⟨p,kvs,rfl,hH,hz,q⟩:=h
  obtain ⟨u,rfl,ru⟩:=vals1 r
  cases ru
  obtain ⟨z,hd,vs,rel,dd⟩:=dk_of I.hok hH
  obtain ⟨ep,da⟩:=dd.dictAt
  have hl:=rel.length
  rw [List.length_map] at hl
  refine Rev.sortedD (I.ok.hd hc) hd da (by rw [← hl]; exact hz) (strs_keys (P:=X.prog) (w:=X.w) rel) fun h1 h' tk e out ss' k1 k2 he a1 a2 a3=>?_
  have ez:ss' = (ss'.map fun x=>x.cps.toList).map txt:=by
    rw [List.map_map]
    have:(txt ∘ fun (x:Str)=>x.cps.toList) = id:=by funext x; exact txt_codes x
    rw [this,List.map_id]
  have hp:(ss'.map fun x=>x.cps.toList).Perm (kvs.map (·.1)):=by
    have:=a2.map (fun x:Str=>x.cps.toList)
    rw [List.map_map] at this
    have e2:((fun x:Str=>x.cps.toList) ∘ txt) = id:=by funext l; exact codes_txt l
    rw [e2,List.map_id] at this
    exact this
  rw [ez] at a3
  have hv:Vals ((ss'.map fun x=>x.cps.toList).map strV) out.toList:=by rw [map_strV,← ez]; exact vals_strs a1
  have I1:Inv X pins σ H { s with heap:=h1,toks:=s.toks }:=I.kept (t':=s.toks) k1
  refine ⟨.ref h1.objs.size,_,I1.laid (t':=tk) (a:=h1.objs.size) (o:=.lst ((ss'.map fun x=>x.cps.toList).map strV)) k2 (Nat.le_refl _) ⟨?_,out.toList,e,hv,by simpa [seqObj] using he⟩,rfl,q _ _ (I1.hok.fresh (Nat.le_refl _)) hp (sortedS_pw _ a3)⟩
  have:=hp.length_eq
  rw [List.length_map,sizeLine_eq]
  simp at this
  simp
  omega
end
end L2
namespace MinD
open PySem PyProof.Rows
end MinD
namespace L2
open PySem PySem.Spec PyProof.Rows
section
variable {X:Cx} {pins:List (Addr × Obj)} {σ:St} {H:Hp} {s:Shared}
theorem key_rel {P:Program} {w:World} {k:Key} {u:Value} (h:(mixKind P w).is k u = true):RelV (kV k) u:=by
  rcases keyIs_shape (show keyIs k u = true from h) with ⟨i,t,rfl,rfl⟩ | ⟨x,t,rfl,rfl⟩ | ⟨rfl,rfl⟩
  · exact ⟨t,rfl⟩
  · exact ⟨t,rfl⟩
  · rfl
end
end L2
namespace DOf
open PySem PyProof.Rows PySem.Calls
end DOf
namespace L2
open PySem PySem.Spec PyProof.Rows
end L2
namespace KSrt
open PySem PySem.W PyProof.Rows
def run {α:Type} (c:Nat→Nat→Bool):KasT α→α
  | .ret a=>a
  | .ask i j k=>run c (k (c i j))
theorem run_bind {α β:Type} (c:Nat→Nat→Bool) (f:α→KasT β):∀ t:KasT α,run c (t.bind f) = run c (f (run c t))
  | .ret _=>rfl
  | .ask i j k=>run_bind c f (k (c i j))
variable {K:Nat→List Nat} {n:Nat}
def ky (K:Nat→List Nat) (p:Array Nat) (i:Nat):List Nat:=K (p.getD i 0)
def cm (K:Nat→List Nat) (i j:Nat):Bool:=decide (K i < K j)
structure Df (K:Nat→List Nat) (n:Nat) (p:Array Nat):Prop where
  size:p.size = n
  ne:∀ i j,i < n→j < n→i ≠ j→ky K p i ≠ ky K p j
def Up (K:Nat→List Nat) (p:Array Nat) (m:Nat):Prop:=∀ i j,i < j→j < m→ky K p i < ky K p j
def Dn (K:Nat→List Nat) (p:Array Nat) (m:Nat):Prop:=∀ i j,i < j→j < m→ky K p j < ky K p i
theorem tot {a b:List Nat} (h:¬ a < b) (ne:a ≠ b):b < a:=by
  by_cases z:b < a
  · exact z
  · exact absurd (List.le_antisymm (List.not_lt.mp z) (List.not_lt.mp h)) ne
theorem Up.more {p:Array Nat} {m:Nat} (h:Up K p m) (hl:∀ i,i < m→ky K p i < ky K p m):Up K p (m + 1):=fun i j hij hj=>by
  rcases Nat.eq_or_lt_of_le (Nat.le_of_lt_succ hj) with e | e
  · subst e; exact hl i hij
  · exact h i j hij e
theorem Up.last {p:Array Nat} {m:Nat} (hm:1 ≤ m) (h:Up K p m) (g:ky K p (m - 1) < ky K p m):Up K p (m + 1):=h.more fun i hi=>by
  rcases Nat.eq_or_lt_of_le (show i ≤ m - 1 by omega) with e | e
  · rw [e]; exact g
  · exact List.lt_trans (h i (m - 1) e (by omega)) g
theorem Dn.last {p:Array Nat} {m:Nat} (hm:1 ≤ m) (h:Dn K p m) (g:ky K p m < ky K p (m - 1)):Dn K p (m + 1):=fun i j hij hj=>by
  rcases Nat.eq_or_lt_of_le (Nat.le_of_lt_succ hj) with e | e
  · subst e
    rcases Nat.eq_or_lt_of_le (show i ≤ j - 1 by omega) with e | e
    · rw [e]; exact g
    · exact List.lt_trans g (h i (j - 1) e (by omega))
  · exact h i j hij e
theorem asc_run {p:Array Nat} (d:Df K n p):∀ f m,1 ≤ m→m + f ≤ n→Up K p m→∃ r,run (cm K) (kas_asc p f m) = r∧m ≤ r∧r ≤ m + f∧Up K p r∧(r < m + f→ky K p r < ky K p (r - 1))
  | 0,m,_,_,up=>⟨m,rfl,Nat.le_refl _,Nat.le_refl _,up,fun h=>by omega⟩
  | f + 1,m,hm,hf,up=>by
    show ∃ r,run (cm K) (if cm K (p.getD m 0) (p.getD (m - 1) 0) = true then .ret m else kas_asc p f (m + 1)) = r∧_
    by_cases h:ky K p m < ky K p (m - 1)
    · rw [if_pos (show cm K _ _ = true from decide_eq_true h)]
      exact ⟨m,rfl,Nat.le_refl _,by omega,up,fun _=>h⟩
    · rw [if_neg (by rw [show cm K (p.getD m 0) (p.getD (m - 1) 0) = false from decide_eq_false h]; decide)]
      obtain ⟨r,e,a1,a2,a3,a4⟩:=asc_run d f (m + 1) (by omega) (by omega) (up.last hm (tot h (d.ne m (m - 1) (by omega) (by omega) (by omega))))
      exact ⟨r,e,by omega,by omega,a3,fun z=>a4 (by omega)⟩
theorem desc_run {p:Array Nat} (d:Df K n p):∀ f m,1 ≤ m→m + f ≤ n→Dn K p m→∃ r,run (cm K) (kas_desc f p m 0) = (p,r,0)∧m ≤ r∧r ≤ m + f∧Dn K p r
  | 0,m,_,_,dn=>⟨m,rfl,Nat.le_refl _,Nat.le_refl _,dn⟩
  | f + 1,m,hm,hf,dn=>by
    show ∃ r,run (cm K) (if cm K (p.getD m 0) (p.getD (m - 1) 0) = true then (if 0 > 0 then kas_desc f (kas_rev p (m - (0 + 1)) m) (m + 1) 0 else kas_desc f p (m + 1) 0)
      else .ask (p.getD (m - 1) 0) (p.getD m 0) fun e=>if e = true then .ret (p,m,0) else kas_desc f p (m + 1) (0 + 1)) = (p,r,0)∧_
    by_cases h:ky K p m < ky K p (m - 1)
    · rw [if_pos (show cm K _ _ = true from decide_eq_true h),if_neg (by omega)]
      obtain ⟨r,e,a1,a2,a3⟩:=desc_run d f (m + 1) (by omega) (by omega) (dn.last hm h)
      exact ⟨r,e,by omega,by omega,a3⟩
    · rw [if_neg (by rw [show cm K (p.getD m 0) (p.getD (m - 1) 0) = false from decide_eq_false h]; decide)]
      show ∃ r,run (cm K) (if cm K (p.getD (m - 1) 0) (p.getD m 0) = true then .ret (p,m,0) else kas_desc f p (m + 1) (0 + 1)) = (p,r,0)∧_
      rw [if_pos (show cm K _ _ = true from decide_eq_true (tot h (d.ne m (m - 1) (by omega) (by omega) (by omega))))]
      exact ⟨m,rfl,Nat.le_refl _,by omega,dn⟩
theorem getD_of {p q:Array Nat} {i j:Nat} (h:p[i]? = q[j]?):p.getD i 0 = q.getD j 0:=by
  rw [Array.getD_eq_getD_getElem?,Array.getD_eq_getD_getElem?,h]
theorem ky_rev {p:Array Nat} {m:Nat} (hm:m ≤ p.size) (k:Nat):ky K (kas_rev p 0 m) k = if k < m then ky K p (m - 1 - k) else ky K p k:=by
  have e:=getElem?_mirror_all (i:=0) hm k
  unfold ky kas_rev
  by_cases h:k < m
  · rw [if_pos ⟨Nat.zero_le _,h⟩] at e
    rw [if_pos h,getD_of e,show 0 + m - 1 - k = m - 1 - k by omega]
  · rw [if_neg (fun z=>h z.2)] at e
    rw [if_neg h,getD_of e]
theorem Df.rev {p:Array Nat} {m:Nat} (d:Df K n p) (hm:m ≤ n):Df K n (kas_rev p 0 m) where
  size:=by unfold kas_rev; rw [mirror_size,d.size]
  ne:=fun i j hi hj hij=>by
    rw [ky_rev (by rw [d.size]; exact hm),ky_rev (by rw [d.size]; exact hm)]
    split <;> split <;> exact d.ne _ _ (by omega) (by omega) (by omega)
theorem Dn.rev {p:Array Nat} {m:Nat} (hm:m ≤ p.size) (h:Dn K p m):Up K (kas_rev p 0 m) m:=fun i j hij hj=>by
  rw [ky_rev hm,ky_rev hm,if_pos (by omega),if_pos hj]
  exact h _ _ (by omega) (by omega)
theorem count_run {p:Array Nat} (d:Df K n p) (hn:2 ≤ n):∃ r q,run (cm K) (kas_count n p) = (r,q)∧1 ≤ r∧r ≤ n∧Df K n q∧Up K q r∧q.Perm p:=by
  unfold kas_count
  rw [run_bind]
  obtain ⟨r,e,a1,a2,a3,a4⟩:=asc_run d (n - 1) 1 (Nat.le_refl _) (by omega) (fun i j h1 h2=>by omega)
  rw [e]
  by_cases h:r = n
  · rw [if_pos (by simpa using h)]
    exact ⟨r,p,rfl,a1,by omega,d,a3,Array.Perm.refl _⟩
  · rw [if_neg (by simpa using h)]
    by_cases h1:r > 1
    · rw [if_pos h1]
      show ∃ r' q,run (cm K) (if cm K (p.getD 0 0) (p.getD (r - 1) 0) = true then .ret (r,p) else kas_descPart r n (kas_rev p 0 r)) = (r',q)∧_
      rw [if_pos (show cm K _ _ = true from decide_eq_true (a3 0 (r - 1) (by omega) (by omega)))]
      exact ⟨r,p,rfl,a1,by omega,d,a3,Array.Perm.refl _⟩
    · rw [if_neg h1]
      have er:r = 1:=by omega
      subst er
      unfold kas_descPart
      rw [run_bind]
      obtain ⟨m,e2,b1,b2,b3⟩:=desc_run d (n - (1 + 1)) (1 + 1) (by omega) (by omega) (fun i j h1 h2=>by
        have e1:i = 0:=by omega
        have e2:j = 1:=by omega
        subst e1 e2
        exact a4 (by omega))
      rw [e2]
      show ∃ r q,run (cm K) (if 0 > 0 then _ else kas_tail3 m n p) = (r,q)∧_
      rw [if_neg (by omega)]
      unfold kas_tail3
      rw [run_bind]
      have hmn:m ≤ n:=by omega
      obtain ⟨r,e3,c1,c2,c3,_⟩:=asc_run (d.rev hmn) (n - m) m (by omega) (by omega) (b3.rev (by rw [d.size]; exact hmn))
      rw [e3]
      exact ⟨r,_,rfl,by omega,by omega,d.rev hmn,c3,mirror_perm _ _ _ _⟩
theorem place_run {p:Array Nat} {k:Nat} (d:Df K n p) (hk:k < n) (up:Up K p k):∀ f l r,l ≤ r→r ≤ k→r - l ≤ f→(∀ i,i < l→ky K p i < ky K p k)→(∀ i,r ≤ i→i < k→ky K p k < ky K p i)→
    ∃ l',run (cm K) (kas_place p k f l r) = l'∧l' ≤ k∧(∀ i,i < l'→ky K p i < ky K p k)∧∀ i,l' ≤ i→i < k→ky K p k < ky K p i
  | 0,l,r,h1,h2,h3,h4,h5=>⟨l,rfl,by omega,h4,fun i hi=>h5 i (by omega)⟩
  | f + 1,l,r,h1,h2,h3,h4,h5=>by
    unfold kas_place
    by_cases h:l ≥ r
    · rw [if_pos h]
      exact ⟨l,rfl,by omega,h4,fun i hi=>h5 i (by omega)⟩
    · rw [if_neg h]
      show ∃ l',run (cm K) (if cm K (p.getD k 0) (p.getD ((l + r) / 2) 0) = true then kas_place p k f l ((l + r) / 2) else kas_place p k f ((l + r) / 2 + 1) r) = l'∧_
      by_cases z:ky K p k < ky K p ((l + r) / 2)
      · rw [if_pos (show cm K _ _ = true from decide_eq_true z)]
        refine place_run d hk up f l ((l + r) / 2) (by omega) (by omega) (by omega) h4 fun i hi hik=>?_
        rcases Nat.eq_or_lt_of_le hi with e | e
        · rw [← e]; exact z
        · exact List.lt_trans z (up _ i e hik)
      · rw [if_neg (by rw [show cm K (p.getD k 0) (p.getD ((l + r) / 2) 0) = false from decide_eq_false z]; decide)]
        have g:=tot z (d.ne k ((l + r) / 2) hk (by omega) (by omega))
        refine place_run d hk up f ((l + r) / 2 + 1) r (by omega) h2 (by omega) (fun i hi=>?_) h5
        rcases Nat.eq_or_lt_of_le (Nat.le_of_lt_succ hi) with e | e
        · rw [e]; exact g
        · exact List.lt_trans (up i _ e (by omega)) g
theorem ky_bub {p:Array Nat} {k l:Nat} (hk:k < p.size) (hl:l ≤ k) (i:Nat):ky K (bubble p k (k - l)) i = if i = l then ky K p k else if l < i∧i ≤ k then ky K p (i - 1) else ky K p i:=by
  have e:=getElem?_bubble hk (k - l) (by omega) i
  rw [show k - (k - l) = l by omega] at e
  unfold ky
  by_cases h1:i = l
  · rw [if_pos h1] at e ⊢; rw [getD_of e]
  · rw [if_neg h1] at e ⊢
    by_cases h2:l < i∧i ≤ k
    · rw [if_pos h2] at e ⊢; rw [getD_of e]
    · rw [if_neg h2] at e ⊢; rw [getD_of e]
theorem bin_run:∀ f (p:Array Nat) k,Df K n p→k + f = n→Up K p k→∃ q,run (cm K) (kas_bin f p k) = q∧Df K n q∧Up K q n∧q.Perm p
  | 0,p,k,d,hk,up=>⟨p,rfl,d,by rw [← hk]; exact up,Array.Perm.refl _⟩
  | f + 1,p,k,d,hk,up=>by
    unfold kas_bin
    rw [run_bind]
    obtain ⟨l,e,a1,a2,a3⟩:=place_run d (show k < n by omega) up k 0 k (Nat.zero_le _) (Nat.le_refl _) (by omega) (fun i hi=>absurd hi (Nat.not_lt_zero _)) (fun i h1 h2=>by omega)
    rw [e]
    have hks:k < p.size:=by rw [d.size]; omega
    have d2:Df K n (bubble p k (k - l)):=⟨by rw [bubble_size,d.size],fun i j hi hj hij=>by
      rw [ky_bub hks a1,ky_bub hks a1]
      repeat' split
      all_goals first | (exfalso; omega) | exact d.ne _ _ (by omega) (by omega) (by omega)⟩
    have up2:Up K (bubble p k (k - l)) (k + 1):=fun i j hij hj=>by
      rw [ky_bub hks a1,ky_bub hks a1]
      repeat' split
      all_goals first | (exfalso; omega) | exact a2 _ (by omega) | exact a3 _ (by omega) (by omega) | exact up _ _ (by omega) (by omega)
    obtain ⟨q,e2,b1,b2,b3⟩:=bin_run f (bubble p k (k - l)) (k + 1) d2 (by omega) up2
    exact ⟨q,e2,b1,b2,b3.trans (bubble_perm _ _ _)⟩
theorem sort_run (hn:2 ≤ n) (inj:∀ i j,i < n→j < n→i ≠ j→K i ≠ K j):∃ q,run (cm K) (kas_sort n) = q∧Up K q n∧q.Perm (List.toArray (List.range n))∧q.size = n:=by
  have gd:∀ i,i < n→(List.toArray (List.range n)).getD i 0 = i:=fun i hi=>by simp [Array.getD,hi]
  have d:Df K n (List.toArray (List.range n)):=⟨by simp,fun i j hi hj hij=>by unfold ky; rw [gd i hi,gd j hj]; exact inj i j hi hj hij⟩
  unfold kas_sort
  rw [run_bind]
  obtain ⟨r,q,e,a1,a2,a3,a4,a5⟩:=count_run d hn
  rw [e]
  by_cases h:r < n
  · rw [if_pos h]
    obtain ⟨q2,e2,b1,b2,b3⟩:=bin_run (n - max r 1) q (max r 1) a3 (by omega) (by rw [Nat.max_eq_left a1]; exact a4)
    exact ⟨q2,e2,b2,b3.trans a5,b1.size⟩
  · rw [if_neg h]
    exact ⟨q,rfl,by rw [show n = r by omega]; exact a4,a5,a3.size⟩
def AR {α:Type} (P:Nat→Nat→Prop) (R:α→Prop):KasT α→Prop
  | .ret a=>R a
  | .ask i j k=>P i j∧∀ b,AR P R (k b)
theorem AR.bind {α β:Type} {P:Nat→Nat→Prop} {R:α→Prop} {R':β→Prop} {f:α→KasT β} (hf:∀ a,R a→AR P R' (f a)):∀ {t:KasT α},AR P R t→AR P R' (t.bind f)
  | .ret a,h=>hf a h
  | .ask i j k,h=>⟨h.1,fun b=>AR.bind hf (h.2 b)⟩
theorem wp_runA {α:Type} {P:Nat→Nat→Prop} {R:α→Prop} {c:Nat→Nat→Bool} {cmp:Nat→Nat→(Bool→Shared→Prop)→Shared→Prop} {J:Shared→Prop} (hc:∀ i j C s,P i j→J s→(∀ s',J s'→C (c i j) s')→cmp i j C s) {Q:α→Shared→Prop}:∀ (t:KasT α) (s:Shared),AR P R t→J s→(∀ s',J s'→Q (run c t) s')→t.kasWp cmp Q s
  | .ret a,s,_,hs,h=>h s hs
  | .ask i j k,s,ha,hs,h=>hc i j _ s ha.1 hs fun s' hs'=>wp_runA hc (k (c i j)) s' (ha.2 _) hs' h
def Bel (n:Nat) (p:Array Nat):Prop:=∀ m,p.getD m 0 < n
def Pn (n i j:Nat):Prop:=i < n∧j < n
theorem Bel.rev {p:Array Nat} (h:Bel n p) (i j:Nat) (hj:j ≤ p.size):Bel n (kas_rev p i j):=fun m=>by
  have e:=getElem?_mirror_all (i:=i) hj m
  unfold kas_rev
  split at e <;> (rw [getD_of e]; exact h _)
theorem Bel.bub {p:Array Nat} (h:Bel n p) {k d:Nat} (hk:k < p.size) (hd:d ≤ k):Bel n (bubble p k d):=fun m=>by
  have e:=getElem?_bubble hk d hd m
  split at e
  · rw [getD_of e]; exact h _
  · split at e <;> (rw [getD_of e]; exact h _)
theorem asc_ar {p:Array Nat} (h:Bel n p):∀ f m,m + f ≤ p.size→AR (Pn n) (fun r=>r ≤ p.size) (kas_asc p f m)
  | 0,m,hm=>hm
  | f + 1,m,hm=>⟨⟨h _,h _⟩,fun b=>by
    cases b with
    | true=>show AR _ _ (if true = true then _ else _); rw [if_pos rfl]; exact (show m ≤ p.size by omega)
    | false=>show AR _ _ (if false = true then _ else _); rw [if_neg Bool.false_ne_true]; exact asc_ar h f (m + 1) (by omega)⟩
theorem desc_ar:∀ f (p:Array Nat) m q,Bel n p→p.size = n→m + f ≤ n→AR (Pn n) (fun r=>Bel n r.1∧r.1.size = n∧r.2.1 ≤ n) (kas_desc f p m q)
  | 0,p,m,q,h,hs,hm=>⟨h,hs,by simpa using hm⟩
  | f + 1,p,m,q,h,hs,hm=>⟨⟨h _,h _⟩,fun b=>by
    cases b with
    | true=>
      show AR _ _ (if true = true then _ else _); rw [if_pos rfl]
      split
      · exact desc_ar f _ (m + 1) 0 (h.rev _ _ (by omega)) (by unfold kas_rev; rw [mirror_size,hs]) (by omega)
      · exact desc_ar f p (m + 1) 0 h hs (by omega)
    | false=>
      show AR _ _ (if false = true then _ else _); rw [if_neg Bool.false_ne_true]
      refine ⟨⟨h _,h _⟩,fun b=>?_⟩
      cases b with
      | true=>show AR _ _ (if true = true then _ else _); rw [if_pos rfl]; exact ⟨h,hs,show m ≤ n by omega⟩
      | false=>show AR _ _ (if false = true then _ else _); rw [if_neg Bool.false_ne_true]; exact desc_ar f p (m + 1) (q + 1) h hs (by omega)⟩
theorem tail_ar {p:Array Nat} {m:Nat} (h:Bel n p) (hs:p.size = n) (hm:m ≤ n):AR (Pn n) (fun r=>Bel n r.2∧r.2.size = n∧r.1 ≤ n) (kas_tail3 m n p):=by
  have h2:=h.rev 0 m (by omega)
  have hz:(kas_rev p 0 m).size = n:=by unfold kas_rev; rw [mirror_size,hs]
  unfold kas_tail3
  refine AR.bind (R:=fun r=>r ≤ (kas_rev p 0 m).size) (fun r hr=>?_) (asc_ar h2 (n - m) m (by omega))
  exact (⟨h2,hz,by rw [← hz]; exact hr⟩:Bel n (kas_rev p 0 m)∧(kas_rev p 0 m).size = n∧r ≤ n)
theorem descPart_ar {p:Array Nat} {m:Nat} (h:Bel n p) (hs:p.size = n) (hm:m < n):AR (Pn n) (fun r=>Bel n r.2∧r.2.size = n∧r.1 ≤ n) (kas_descPart m n p):=by
  unfold kas_descPart
  refine AR.bind (fun r hr=>?_) (desc_ar (n - (m + 1)) p (m + 1) 0 h hs (by omega))
  split
  · exact tail_ar (hr.1.rev _ _ (by omega)) (by unfold kas_rev; rw [mirror_size]; exact hr.2.1) hr.2.2
  · exact tail_ar hr.1 hr.2.1 hr.2.2
theorem count_ar {p:Array Nat} (h:Bel n p) (hs:p.size = n) (hn:2 ≤ n):AR (Pn n) (fun r=>Bel n r.2∧r.2.size = n∧r.1 ≤ n) (kas_count n p):=by
  unfold kas_count
  refine AR.bind (fun r hr=>?_) (asc_ar h (n - 1) 1 (by omega))
  by_cases e:r = n
  · rw [if_pos (by simpa using e)]
    exact ⟨h,hs,show r ≤ n by omega⟩
  · rw [if_neg (by simpa using e)]
    have hr2:r < n:=by have:r ≤ p.size:=hr; omega
    split
    · refine ⟨⟨h _,h _⟩,fun b=>?_⟩
      cases b with
      | true=>show AR _ _ (if true = true then _ else _); rw [if_pos rfl]; exact ⟨h,hs,show r ≤ n by omega⟩
      | false=>show AR _ _ (if false = true then _ else _); rw [if_neg Bool.false_ne_true]; exact descPart_ar (h.rev _ _ (by omega)) (by unfold kas_rev; rw [mirror_size,hs]) hr2
    · exact descPart_ar h hs hr2
theorem place_ar {p:Array Nat} {k:Nat} (h:Bel n p):∀ f l r,l ≤ k→r ≤ k→AR (Pn n) (fun l=>l ≤ k) (kas_place p k f l r)
  | 0,l,r,hl,hr=>hl
  | f + 1,l,r,hl,hr=>by
    unfold kas_place
    split
    · exact hl
    · refine ⟨⟨h _,h _⟩,fun b=>?_⟩
      cases b with
      | true=>show AR _ _ (if true = true then _ else _); rw [if_pos rfl]; exact place_ar h f l _ hl (by omega)
      | false=>show AR _ _ (if false = true then _ else _); rw [if_neg Bool.false_ne_true]; exact place_ar h f _ r (by omega) hr
theorem bin_ar:∀ f (p:Array Nat) k,Bel n p→p.size = n→k + f = n→AR (Pn n) (fun _=>True) (kas_bin f p k)
  | 0,p,k,_,_,_=>trivial
  | f + 1,p,k,h,hs,hk=>AR.bind (fun l hl=>bin_ar f _ (k + 1) (h.bub (by omega) (by omega)) (by rw [bubble_size,hs]) (by omega)) (place_ar h k 0 k (Nat.zero_le _) (Nat.le_refl _))
theorem sort_ar (hn:2 ≤ n):AR (Pn n) (fun _=>True) (kas_sort n):=by
  have h:Bel n (List.toArray (List.range n)):=fun m=>by
    by_cases z:m < n
    · simp [Array.getD,z]
    · simp [Array.getD,z]; omega
  unfold kas_sort
  refine AR.bind (fun r hr=>?_) (count_ar h (by simp) hn)
  split
  · rename_i z
    exact bin_ar _ _ _ hr.1 hr.2.1 (by omega)
  · trivial
end KSrt
namespace KSrt
open PySem PySem.W PyProof.Rows
def tx (l:List Nat):Str:=⟨l.toArray⟩
theorem tx_codes (l:List Nat):(tx l).cps.toList = l:=by simp [tx]
section
variable {prog:Program} {w:World} {A:Around} {E:Value→Shared→Prop} {s:Shared} {K U:Nat→List Nat} {vs:List Value}
def Tups (K U:Nat→List Nat) (h:Heap) (vs:List Value):Prop:=∀ i,i < vs.length→∃ b o t1 t2 c,vs[i]? = some (.ref b)∧h.get? b = some o∧o.cls = .type "tuple"∧o.data = .seq #[.str (tx (K i)) t1,.str (tx (U i)) t2] c
theorem tups_kat:∀ {vs:List Value} {K U:Nat→List Nat} {h:Heap},Tups K U h vs→∃ fs,KatTups h vs fs∧fs.length = vs.length∧∀ f ∈ fs,∃ x t,f = Value.str x t
  | [],_,_,_,_=>⟨[],trivial,rfl,fun f h=>(nomatch h)⟩
  | v :: vs,K,U,h,t=>by
    obtain ⟨b,o,t1,t2,c,e1,e2,e3,e4⟩:=t 0 (by simp)
    obtain ⟨fs,a1,a2,a3⟩:=tups_kat (vs:=vs) (K:=fun i=>K (i + 1)) (U:=fun i=>U (i + 1)) (h:=h) fun i hi=>by simpa using t (i + 1) (by simpa using hi)
    have e:v = .ref b:=by simpa using e1
    subst e
    refine ⟨.str (tx (K 0)) t1 :: fs,.cons e2 e3 e4 rfl a1,by simp [a2],fun f hf=>?_⟩
    rcases List.mem_cons.mp hf with rfl | hf
    · exact ⟨_,_,rfl⟩
    · exact a3 f hf
theorem ask {h3:Heap} (ht:Tups K U s.heap vs) (h64:vs.length ≤ 100) {i j:Nat} (hi:i < vs.length) (hj:j < vs.length) (hne:∀ i j,i < vs.length→j < vs.length→i ≠ j→K i ≠ K j) {C:Bool→Shared→Prop} (q:C (cm K i j) s):kas_ask prog w A (tuples' true) vs i j C s:=by
  obtain ⟨b,o,t1,t2,c,e1,e2,e3,e4⟩:=ht i hi
  obtain ⟨b',o',u1,u2,c',f1,f2,f3,f4⟩:=ht j hj
  unfold kas_ask
  rw [show vs.getD i Value.none = .ref b by rw [List.getD_eq_getElem?_getD,e1]; rfl,show vs.getD j Value.none = .ref b' by rw [List.getD_eq_getElem?_getD,f1]; rfl]
  refine kat_lt e2 e4 f2 f4 ?_
  refine kat_cons (SeqAt.EqAt.str_str (tx (K i)) t1 (tx (K j)) u1 _ _ _ _ ?_)
  by_cases hij:i = j
  · subst hij
    rw [show ((tx (K i)) == (tx (K i))) = true from beq_self_eq_true _]
    refine kat_yes (kat_cons (SeqAt.EqAt.str_str (tx (U i)) t2 (tx (U i)) u2 _ _ _ _ ?_))
    rw [show ((tx (U i)) == (tx (U i))) = true from beq_self_eq_true _]
    rw [show cm K i i = false from decide_eq_false (List.lt_irrefl _)] at q
    exact kat_yes (kat_nil q)
  · rw [show ((tx (K i)) == (tx (K j))) = false from beq_eq_false_iff_ne.mpr fun z=>hne i j hi hj hij (by rw [← tx_codes (K i),z,tx_codes])]
    refine kat_no (oneLt_str ?_)
    rw [tx_codes,tx_codes]
    exact q
theorem tup_sort {a:Addr} {n:Nat} {P:PySem.Fin→Shared→Prop} (ho:s.heap.get? a = some (seqObj "list" vs.toArray n)) (ht:Tups K U s.heap vs) (hne:∀ i j,i < vs.length→j < vs.length→i ≠ j→K i ≠ K j) (h64:vs.length < 64)
    (h:∀ (q:Array Nat) (h':Heap) (e:Nat),q.size = vs.length→q.Perm (List.toArray (List.range vs.length))→Up K q vs.length→(∀ b o,b ≠ a→s.heap.get? b = some o→h'.get? b = some o)→h'.get? a = some (seqObj "list" (List.toArray (q.toList.map fun i=>vs.getD i Value.none)) e)→P (.done (.ret .none)) { s with heap:=h' }) :
    wpAny (model prog w) A (Builtin.«list.sort» ⟨[.ref a],[]⟩) P E s:=by
  have ha:a < s.heap.objs.size:=Heap.lt_size ho
  have s1:=Heap.SameBut.update s.heap a (Obj.mapSeq fun _=>(#[]:Array Value))
  obtain ⟨e1,ho1⟩:∃ e1,(s.heap.update a (Obj.mapSeq fun _=>(#[]:Array Value))).get? a = some (seqObj "list" #[] e1):=⟨_,get?_update_seq ho fun _=>#[]⟩
  have keep:∀ b o,b ≠ a→s.heap.get? b = some o→(((s.heap.update a (Obj.mapSeq fun _=>(#[]:Array Value))).push (seqObj "tuple" vs.toArray 0)).push (seqObj "list" #[] 0)).get? b = some o:=fun b o hb e=>Heap.get?_push_of_some _ (Heap.get?_push_of_some _ ((s1.2 b hb).trans e))
  have ho6:(((s.heap.update a (Obj.mapSeq fun _=>(#[]:Array Value))).push (seqObj "tuple" vs.toArray 0)).push (seqObj "list" #[] 0)).get? a = some (seqObj "list" #[] e1):=Heap.get?_push_of_some _ (Heap.get?_push_of_some _ ho1)
  have ht6:Tups K U (((s.heap.update a (Obj.mapSeq fun _=>(#[]:Array Value))).push (seqObj "tuple" vs.toArray 0)).push (seqObj "list" #[] 0)) vs:=fun i hi=>by
    obtain ⟨b,o,t1,t2,c,x1,x2,x3,x4⟩:=ht i hi
    refine ⟨b,o,t1,t2,c,x1,keep b o (fun z=>?_) x2,x3,x4⟩
    subst z
    rw [ho] at x2
    cases x2
    injection x3 with x3
    exact absurd x3 (by decide)
  rw [list_sort_plain]
  refine wpAny_bind (listItems_at ho rfl ?_)
  refine wpAny_bind (listUpdate_at ho rfl ?_ (by rw [List.size_toArray,sizeLine_eq]; omega) (Nat.zero_le _))
  refine wpAny_bind (seqEpoch_at ho1 rfl ?_)
  refine wpAny_bind (wpAny_newTuple ?_ (by show vs.length ≤ _; rw [sizeLine_eq]; omega))
  refine wpAny_bind (wpAny_newList ?_ (Nat.zero_le _))
  refine wpAny_holding ?_
  show wpAny (model prog w) A _ P E { s with heap:=((s.heap.update a (Obj.mapSeq fun _=>(#[]:Array Value))).push (seqObj "tuple" vs.toArray 0)).push (seqObj "list" #[] 0) }
  generalize ((s.heap.update a (Obj.mapSeq fun _=>(#[]:Array Value))).push (seqObj "tuple" vs.toArray 0)).push (seqObj "list" #[] 0) = B at keep ho6 ht6 ⊢
  dsimp only
  by_cases h2:vs.toArray.size < 2
  · rw [if_pos h2,if_pos h2]
    refine wpAny_bind (wpAny_pure ?_)
    rw [StateT.run_pure]
    refine wpAny_bind (wpAny_pure ?_)
    dsimp only
    refine wpAny_bind (seqEpoch_at ho6 rfl ?_)
    refine wpAny_bind (listUpdate_at ho6 rfl ?_ (hsz2:=by rw [Array.size_map]; show (pairsOf vs).size ≤ _; rw [pairsOf_size,sizeLine_eq]; omega))
    simp only [bne_self_eq_false,Bool.false_eq_true,if_false]
    rw [List.size_toArray] at h2
    have s2:=Heap.SameBut.update B a (Obj.mapSeq fun _=>(arrOf (SortSt.mk' general' (vs.toArray.zip vs.toArray) #[] 7 none)).map (·.2))
    obtain ⟨c2,hc2⟩:∃ c2,(B.update a (Obj.mapSeq fun _=>(arrOf (SortSt.mk' general' (vs.toArray.zip vs.toArray) #[] 7 none)).map (·.2))).get? a = some (seqObj "list" ((arrOf (SortSt.mk' general' (vs.toArray.zip vs.toArray) #[] 7 none)).map (·.2)) c2):=⟨_,get?_update_seq ho6 fun _=>(arrOf (SortSt.mk' general' (vs.toArray.zip vs.toArray) #[] 7 none)).map (·.2)⟩
    have e1:(arrOf (SortSt.mk' general' (vs.toArray.zip vs.toArray) #[] 7 none)).map (·.2) = List.toArray ((List.toArray (List.range vs.length)).toList.map fun i=>vs.getD i Value.none):=by
      apply Array.toList_inj.mp
      show ((vs.toArray.zip vs.toArray).map (·.2)).toList = _
      rw [Array.toList_map,Array.toList_zip]
      show (vs.zip vs).map (·.2) = (List.range vs.length).map fun i=>vs.getD i Value.none
      apply List.ext_getElem
      · simp
      · intro i h1 h3
        simp at h1
        simp [h1]
    exact wpAny_pure (h (List.toArray (List.range vs.length)) _ c2 (by simp) (Array.Perm.refl _) (fun i j h1 h3=>by omega) (fun b o hb e=>(s2.2 b hb).trans (keep b o hb e)) (hc2.trans (by rw [e1])))
  · rw [if_neg h2,if_neg h2]
    rw [List.size_toArray] at h2
    obtain ⟨fs,k1,k2,k3⟩:=tups_kat ht6
    refine wpAny_bind (kat_kind (s:={ s with heap:=B }) (T:=.type "str") k1 (by omega) (fun f hf=>by obtain ⟨x,t,rfl⟩:=k3 f hf; exact Looks.of_pure rfl) (by decide) ?_)
    rw [show tuples' ((Value.type "str") != Value.type "tuple") = tuples' true from rfl]
    obtain ⟨q,eq,q1,q2,q3⟩:=sort_run (K:=K) (n:=vs.length) (by omega) hne
    have hk:(kas_sort vs.length).kasWp (kas_ask prog w A (tuples' true) vs) (fun p s'=>p = q∧s' = { s with heap:=B }) { s with heap:=B }:=
      wp_runA (P:=Pn vs.length) (c:=cm K) (J:=fun s'=>s' = { s with heap:=B }) (fun i j C s' hp hs' hC=>by
        subst hs'
        exact ask (s:={ s with heap:=B }) (h3:=B) ht6 (by omega) hp.1 hp.2 hne (hC _ rfl)) _ _ (sort_ar (by omega)) rfl fun s' hs'=>⟨eq,hs'⟩
    refine wpAny_bind (wpAny_mono (kat_run (Q:=fun st' s'=>arrOf st' = q.map (kas_item (vs.toArray.zip vs.toArray))∧failedOf st' = none∧s' = { s with heap:=B })
      rfl (by omega) h64 (fun p' st' s' a1 a2 a3 a4=>by obtain ⟨rfl,rfl⟩:=a4; exact ⟨a2,a3,rfl⟩) hk) ?_ fun _ _ e=>e)
    rintro ⟨⟨⟩,st'⟩ s' ⟨har,hf,rfl⟩
    dsimp only
    have hout:=kat_snds rfl har
    have hsz:(List.toArray (q.toList.map fun i=>vs.getD i Value.none)).size = vs.length:=by rw [List.size_toArray,List.length_map,Array.length_toList,q3]
    rw [hout]
    have s2:=Heap.SameBut.update B a (Obj.mapSeq fun _=>List.toArray (q.toList.map fun i=>vs.getD i Value.none))
    obtain ⟨c2,hc2⟩:∃ c2,(B.update a (Obj.mapSeq fun _=>List.toArray (q.toList.map fun i=>vs.getD i Value.none))).get? a = some (seqObj "list" (List.toArray (q.toList.map fun i=>vs.getD i Value.none)) c2):=⟨_,get?_update_seq ho6 fun _=>List.toArray (q.toList.map fun i=>vs.getD i Value.none)⟩
    refine wpAny_bind (seqEpoch_at ho6 rfl ?_)
    refine wpAny_bind (listUpdate_at ho6 rfl ?_ (Nat.zero_le _) (Nat.le_trans (Nat.le_of_eq hsz) (by rw [sizeLine_eq]; omega)))
    rw [hf]
    simp only [bne_self_eq_false,Bool.false_eq_true,if_false]
    exact wpAny_pure (h q _ c2 q3 q2 q1 (fun b o hb e=>(s2.2 b hb).trans (keep b o hb e)) hc2)
theorem sortedI {κ:Type} [DecidableEq κ] {knd:PySem.KeyKind prog w κ} {r d:Addr} {kvs:List (κ × Value)} {ep:Nat} {Q:Value→Shared→Prop} (hh:A.handled = none) (hv:s.heap.IsItemsView r d) (hm:s.heap.DictAt knd d kvs ep) (h64:kvs.length < 64)
    (hK:∀ (i:Nat) (k:κ) (v u:Value),kvs[i]? = some (k,v)→knd.is k u = true→(∃ t,u = Value.str (tx (K i)) t)∧∃ t,v = Value.str (tx (U i)) t) (hne:∀ i j,i < kvs.length→j < kvs.length→i ≠ j→K i ≠ K j)
    (h:∀ (h1 h':Heap) (tk:Nat) (q:Array Nat) (e:Nat) (vs:List Value),(∀ b o,s.heap.get? b = some o→h1.get? b = some o)→vs.length = kvs.length→q.size = kvs.length→q.Perm (List.toArray (List.range kvs.length))→Up K q kvs.length→Tups K U h1 vs→
      (∀ b o,h1.get? b = some o→h'.get? b = some o)→h'.get? h1.objs.size = some (seqObj "list" (List.toArray (q.toList.map fun i=>vs.getD i Value.none)) e)→(∀ (i:Nat) (b:Addr),vs[i]? = some (Value.ref b)→s.heap.objs.size ≤ b)→Q (.ref h1.objs.size) { s with heap:=h',toks:=tk }) :
    wpAny (model prog w) A (call (.builtin "sorted") [.ref r]) Q E s:=by
  have hn:kvs.length ≤ sizeLine:=by rw [sizeLine_eq]; omega
  refine Calls.call_function_entry kind_sorted plain_sorted entry_sorted (args_sorted1 _) ?_
  unfold Builtin.«sorted»
  refine wpAny_bind (m:=checkCount "sorted" 1 1 _) (wpAny_pure ?_)
  refine wpAny_bind (kdx_collect (A:=A.in1) (knd:=knd) hh hv hm hn fun h1 tk as hk hl hG=>?_)
  have hlen:(as.map Value.ref).length = kvs.length:=by rw [List.length_map,hl]
  refine wpAny_bind (wpAny_newList ?_ (by rw [hlen]; exact hn))
  have ht:Tups K U h1 (as.map Value.ref):=fun i hi=>by
    rw [List.length_map] at hi
    have ea:as[i]? = some as[i]:=List.getElem?_eq_getElem hi
    obtain ⟨key,k,x,x1,x2,x3⟩:=hG.pairs i _ ea
    obtain ⟨⟨t1,e1⟩,t2,e2⟩:=hK i k x key x1 x2
    subst e1 e2
    exact ⟨as[i],_,t1,t2,_,by rw [List.getElem?_map,ea]; rfl,x3,rfl,rfl⟩
  have ho : (h1.push { cls := .type "list", data := .seq (as.map Value.ref).toArray }).get? h1.objs.size = some (seqObj "list" (as.map Value.ref).toArray 0) := Heap.get?_push_size _ rfl
  have ht2:Tups K U (h1.push { cls:=.type "list",data:=.seq (as.map Value.ref).toArray }) (as.map Value.ref):=fun i hi=>by
    obtain ⟨b,o,t1,t2,c,x1,x2,x3,x4⟩:=ht i hi
    exact ⟨b,o,t1,t2,c,x1,Heap.get?_push_of_some _ x2,x3,x4⟩
  refine wpAny_bind (wpAny_holding (wpAny_call_entry slot_list_sort ⟨_,ho,rfl⟩ entry_list_sort (tup_sort (s:={ s with heap:=h1.push { cls:=.type "list",data:=.seq (as.map Value.ref).toArray },toks:=tk }) (K:=K) (U:=U) ho ht2 (by rw [hlen]; exact hne) (by rw [hlen]; exact h64) fun q h' e q1 q2 q3 kp hc=>⟨_,rfl,?_⟩) (args_list_sort _)))
  rw [hlen] at q1 q2 q3
  refine wpAny_pure ⟨_,rfl,h h1 h' tk q e _ hk hlen q1 q2 q3 ht (fun b o hb=>kp b o (Nat.ne_of_lt (Heap.lt_size hb)) (Heap.get?_push_of_some _ hb)) hc fun i b hb=>?_⟩
  rw [List.getElem?_map] at hb
  obtain ⟨a,ha,e⟩:=Option.map_eq_some_iff.mp hb
  cases e
  exact Nat.le_of_lt (hG.above _ (List.mem_of_getElem? ha))
end
end KSrt
namespace L2
open PySem PySem.Spec PyProof.Rows
section
variable {X:Cx} {pins:List (Addr × Obj)} {σ:St} {H H':Hp} {s:Shared} {h':Heap}
theorem ObjOk.there {P:Program} {w:World} {h:Heap} {a:Addr} {o:HO} (x:ObjOk P w H h a o):∃ ob,h.get? a = some ob:=by
  cases o with
  | lst xs=>obtain ⟨_,_,_,_,e⟩:=x; exact ⟨_,e⟩
  | tup xs=>obtain ⟨_,_,_,_,e,_⟩:=x; exact ⟨_,e⟩
  | dK kvs=>obtain ⟨_,_,_,_,_,_,_,e,_⟩:=x; exact ⟨_,e⟩
  | dT kvs=>obtain ⟨_,_,_,_,_,_,_,e,_⟩:=x; exact ⟨_,e⟩
  | set S n=>obtain ⟨_,_,_,_,e,_⟩:=x; exact ⟨_,e⟩
  | ins C dx fs=>obtain ⟨_,_,_,e,_⟩:=x; exact ⟨_,e⟩
  | own y=>obtain ⟨_,e⟩:=x; exact ⟨_,e⟩
  | xd fs=>obtain ⟨_,⟨_,_,_,e,_⟩,_⟩:=x; exact ⟨_,e⟩
  | met f y=>exact ⟨_,x⟩
  | rng lo hi=>obtain ⟨_,_,_,e⟩:=x; exact ⟨_,e⟩
  | frz ob u=>obtain ⟨e,_⟩:=x; exact ⟨_,e⟩
  | tbl ps=>exact ⟨_,x⟩
  | ext φ=>obtain ⟨_,e,_⟩:=x; exact e
theorem Inv.laids {t':Nat} (I:Inv X pins σ H s) (k:∀ b u,s.heap.get? b = some u→h'.get? b = some u) (old:∀ b o,s.heap.get? b = some o→H' b = H b) (new:∀ b o,s.heap.get? b = none→H' b = some o→ObjOk X.prog X.w H' h' b o) :
    Inv X pins σ H' { s with heap:=h',toks:=t' }:=by
  have J:=I.kept (t':=t') k
  have sm:∀ {b:Addr} {o:HO},H b = some o→H' b = some o:=fun {b o} e=>by
    obtain ⟨ob,q⟩:=(I.hok b o e).there
    exact (old b ob q).trans e
  refine ⟨J.ok,J.os,J.bare,⟨J.base.keep,J.base.slot,fun b ob e n hx=>?_,J.base.there,fun b xs e=>sm (J.base.tups b xs e),fun b ob u e=>sm (J.base.frzs b ob u e),fun b ps e=>?_⟩,J.loc,J.cell,?_,fun x c e=>?_,fun p hp=>?_,fun b u e=>?_,J.len⟩
  · obtain ⟨o',q⟩:=I.base.there b ob e hx
    rw [old b o' q]
    exact J.base.free b ob e n hx
  · obtain ⟨more,q⟩:=J.base.tbls b ps e
    exact ⟨more,sm q⟩
  · obtain ⟨m,⟨o,es,ep,q,_⟩,_⟩:=I.loc
    rw [old _ _ q]; exact I.free
  · obtain ⟨v,o,q,_⟩:=I.cell x c e
    rw [old _ _ q]; exact I.freeC x c e
  · obtain ⟨a,b,c⟩:=I.pin p hp
    exact ⟨k _ _ a,by rw [old _ _ a]; exact b,c⟩
  · cases q:s.heap.get? b with
    | some ob=>
      rw [old b ob q] at e
      exact (J.hok b u e).stay (fun _ _ _ q=>q) (fun c q=>sm q) fun c xs q=>sm q
    | none=>exact new b u q e
def viewO (v d:Addr):HO:=.ext fun h=>h.IsItemsView v d
abbrev rItems:V→List V→Hp→VK→Prop:=fun x xs H Q=>∃ a kvs,x = .ref a∧xs = []∧H a = some (.dK kvs)∧∀ v,H v = none→Q (.ref v) (upd H v (viewO v a))
theorem mt_items:MtR X "dict.items" rItems:=by
  intro pins s σ H x xs v us Q I rx rv h
  obtain ⟨a,kvs,rfl,rfl,hH,q⟩:=h
  cases rx
  have hus:=rv.zero
  subst hus
  obtain ⟨z,hd,vs,rel,dd⟩:=dk_of I.hok hH
  refine call_meetsIn PySem.F.slot_dict_items dd.typeIs PySem.F.entry_dict_items (PySem.F.args_dict_items_1 _) (meets_dict_items (mixKind X.prog X.w) a hd) ⟨⟨vs,dd⟩,?_⟩
  have hv:(s.heap.push { cls:=.type "dict_items",data:=.fields #[.ref a] }).IsItemsView s.heap.objs.size a:=⟨_,Heap.get?_push_size _ rfl,rfl,rfl⟩
  refine ⟨.ref s.heap.objs.size,_,I.laid (t':=s.toks) (o:=viewO s.heap.objs.size a) (fun b o e=>Heap.get?_push_of_some _ e) (Nat.le_refl _) ⟨hv,⟨_,Heap.get?_push_size _ rfl⟩,fun h1 h2 x k=>?_⟩,rfl,q _ (I.hok.fresh (Nat.le_refl _))⟩
  obtain ⟨o,e,r⟩:=x
  exact ⟨o,k o e,r⟩
abbrev rSortedI:List V→Hp→VK→Prop:=fun xs H Q=>∃ v a,∃ kvs:List (List Nat × List Nat),xs = [.ref v]∧H v = some (viewO v a)∧H a = some (.dK (kvs.map fun kv=>(Key.inr (txt kv.1),strV kv.2)))∧kvs.length < 64∧(kvs.map (·.1)).Nodup∧
  ∀ H' l ys (zs:List (List Nat × List Nat)),Same H H'→H l = none→H' l = some (.lst ys)→zs.Perm kvs→(zs.map (·.1)).Pairwise (· < ·)→ys.length = zs.length→(∀ (i:Nat) kv,zs[i]? = some kv→∃ t,ys[i]? = some (.ref t)∧H' t = some (.tup [strV kv.1,strV kv.2])∧H t = none)→Q (.ref l) H'
theorem KV.geti {kvs:List (Key × V)} {vs:List (Key × Value)} (r:KV kvs vs):∀ {i:Nat} {k:Key} {u:Value},vs[i]? = some (k,u)→∃ v,kvs[i]? = some (k,v)∧RelV v u:=by
  induction r with
  | nil=>intro i k v e; simp at e
  | @cons p q ps qs h t ih=>
    intro i k u e
    cases i with
    | zero=>
      simp at e
      subst e
      obtain ⟨p1,p2⟩:=p
      have h1:p1 = k:=h.1
      subst h1
      exact ⟨p2,rfl,h.2⟩
    | succ i=>exact ih (by simpa using e)
def adr (vs:List Value) (j:Nat):Addr:=match vs[j]? with | some (.ref b)=>b | _=>0
theorem call_sortedI (hc:X.calm = true):CallR X (.builtin "sorted") rSortedI:=by
  intro pins s σ H xs us Q I r h
  obtain ⟨v,a,kvs,rfl,hV,hH,h64,hnd,q⟩:=h
  obtain ⟨u,rfl,ru⟩:=vals1 r
  cases ru
  obtain ⟨z,hd,vs,rel,dd⟩:=dk_of I.hok hH
  obtain ⟨ep,da⟩:=dd.dictAt
  have hl:=rel.length
  rw [List.length_map] at hl
  have hv:s.heap.IsItemsView v a:=(show ObjOk X.prog X.w H s.heap v (viewO v a) from I.hok v _ hV).1
  have hin:∀ i j,i < vs.length→j < vs.length→i ≠ j→(kvs.getD i ([],[])).1 ≠ (kvs.getD j ([],[])).1:=fun i j hi hj hij e=>by
    rw [List.getD_eq_getElem?_getD,List.getD_eq_getElem?_getD,List.getElem?_eq_getElem (by omega),List.getElem?_eq_getElem (by omega)] at e
    have pw:=List.pairwise_iff_getElem.mp hnd
    rcases Nat.lt_or_ge i j with w | w
    · exact pw i j (by rw [List.length_map]; omega) (by rw [List.length_map]; omega) w (by rw [List.getElem_map,List.getElem_map]; exact e)
    · exact pw j i (by rw [List.length_map]; omega) (by rw [List.length_map]; omega) (by omega) (by rw [List.getElem_map,List.getElem_map]; exact e.symm)
  refine KSrt.sortedI (K:=fun i=>(kvs.getD i ([],[])).1) (U:=fun i=>(kvs.getD i ([],[])).2) (I.ok.hd hc) hv da (by omega) (fun i k v u e hk=>?_) hin fun h1 h' tk p e ws k1 l1 p1 p2 p3 tp k2 hg ab=>?_
  · obtain ⟨v',e1,rv⟩:=rel.geti e
    rw [List.getElem?_map] at e1
    obtain ⟨kv,e2,e3⟩:=Option.map_eq_some_iff.mp e1
    cases e3
    rw [List.getD_eq_getElem?_getD,e2]
    exact ⟨key_rel hk,rv⟩
  · have tb:∀ j,j < ws.length→∃ o t1 t2 c,ws[j]? = some (.ref (adr ws j))∧h1.get? (adr ws j) = some o∧o.cls = .type "tuple"∧o.data = .seq #[.str (txt (kvs.getD j ([],[])).1) t1,.str (txt (kvs.getD j ([],[])).2) t2] c:=fun j hj=>by
      obtain ⟨b,o,t1,t2,c,x1,x2,x3,x4⟩:=tp j hj
      have eb:adr ws j = b:=by unfold adr; rw [x1]
      exact ⟨o,t1,t2,c,by rw [eb]; exact x1,by rw [eb]; exact x2,x3,x4⟩
    have one:∀ i j,i < ws.length→j < ws.length→adr ws i = adr ws j→i = j:=fun i j hi hj e=>by
      obtain ⟨o,t1,t2,c,x1,x2,x3,x4⟩:=tb i hi
      obtain ⟨o',u1,u2,c',y1,y2,y3,y4⟩:=tb j hj
      rw [e,y2] at x2
      cases x2
      rw [x4] at y4
      by_cases hij:i = j
      · exact hij
      · refine absurd ?_ (hin i j (by omega) (by omega) hij)
        injection y4 with y4 _
        have y5:=congrArg (fun a:Array Value=>a[0]?) y4
        simp at y5
        exact txt_inj.mp y5.1
    have lows:∀ j,j < ws.length→s.heap.objs.size ≤ adr ws j∧adr ws j < h1.objs.size:=fun j hj=>by
      obtain ⟨o,t1,t2,c,x1,x2,x3,x4⟩:=tb j hj
      exact ⟨ab j _ x1,Heap.lt_size x2⟩
    have hpl:p.toList.Perm (List.range vs.length):=by simpa using p2.toList
    have plt:∀ i ∈ p.toList,i < vs.length:=fun i hi=>List.mem_range.mp (hpl.mem_iff.mp hi)
    let KU:=fun j=>kvs.getD j ([],[])
    let ys:=p.toList.map fun i=>V.ref (adr ws i)
    let Hn:Hp:=fun b=>if (s.heap.get? b).isSome = true then H b else if b = h1.objs.size then some (.lst ys) else ((List.range ws.length).find? fun j=>decide (adr ws j = b)).map fun j=>.tup [strV (KU j).1,strV (KU j).2]
    have nbl:s.heap.get? h1.objs.size = none:=by
      cases w:s.heap.get? h1.objs.size with
      | none=>rfl
      | some o=>exact absurd (Heap.lt_size (k1 _ _ w)) (Nat.lt_irrefl _)
    have nad:∀ j,j < ws.length→s.heap.get? (adr ws j) = none:=fun j hj=>Heap.get?_none_of_le (lows j hj).1
    have hHl:Hn h1.objs.size = some (.lst ys):=by
      show (if (s.heap.get? h1.objs.size).isSome = true then _ else _) = _
      rw [nbl,if_neg (by decide),if_pos rfl]
    have hHt:∀ j,j < ws.length→Hn (adr ws j) = some (.tup [strV (KU j).1,strV (KU j).2]):=fun j hj=>by
      show (if (s.heap.get? (adr ws j)).isSome = true then _ else _) = _
      rw [nad j hj,if_neg (by decide),if_neg (Nat.ne_of_lt (lows j hj).2)]
      cases w:(List.range ws.length).find? fun i=>decide (adr ws i = adr ws j) with
      | none=>
        have:=List.find?_eq_none.mp w j (List.mem_range.mpr hj)
        simp at this
      | some i=>
        have h1':=List.find?_some w
        have h2':=List.mem_range.mp (List.mem_of_find?_eq_some w)
        have:=one i j h2' hj (of_decide_eq_true h1')
        subst this
        rfl
    have nH:∀ b,s.heap.get? b = none→H b = none:=fun b w=>by
      cases w2:H b with
      | none=>rfl
      | some u=>obtain ⟨ob,w3⟩:=(I.hok b u w2).there; rw [w] at w3; cases w3
    have fin:Inv X pins σ Hn { s with heap:=h',toks:=tk }:=by
      refine I.laids (fun b o e=>k2 b o (k1 b o e)) (fun b o e=>?_) fun b o e w=>?_
      · show (if (s.heap.get? b).isSome = true then _ else _) = _
        rw [e,if_pos (show (some o).isSome = true from rfl)]
      · have w':(if (s.heap.get? b).isSome = true then H b else if b = h1.objs.size then some (.lst ys) else ((List.range ws.length).find? fun j=>decide (adr ws j = b)).map fun j=>.tup [strV (KU j).1,strV (KU j).2]) = some o:=w
        rw [e,if_neg (by decide)] at w'
        by_cases z1:b = h1.objs.size
        · rw [if_pos z1] at w'
          cases w'
          subst z1
          refine ⟨?_,p.toList.map fun i=>ws.getD i Value.none,_,?_,by simpa [seqObj] using hg⟩
          · show (p.toList.map _).length ≤ _
            rw [List.length_map,Array.length_toList,p1,sizeLine_eq]
            omega
          · have gen:∀ l:List Nat,(∀ i ∈ l,i < vs.length)→Vals (l.map fun i=>V.ref (adr ws i)) (l.map fun i=>ws.getD i Value.none):=fun l=>by
              induction l with
              | nil=>intro _; exact .nil
              | cons i l ih=>
                intro hl'
                refine .cons ?_ (ih fun j hj=>hl' j (List.mem_cons_of_mem _ hj))
                obtain ⟨o,t1,t2,c,x1,_⟩:=tb i (by rw [l1]; exact hl' i List.mem_cons_self)
                show ws.getD i Value.none = Value.ref (adr ws i)
                rw [List.getD_eq_getElem?_getD,x1]
                rfl
            exact gen p.toList plt
        · rw [if_neg z1] at w'
          obtain ⟨j,w3,w4⟩:=Option.map_eq_some_iff.mp w'
          have h1':adr ws j = b:=by have:=List.find?_some w3; simpa using this
          have h2':=List.mem_range.mp (List.mem_of_find?_eq_some w3)
          subst h1'
          cases w4
          obtain ⟨ob,t1,t2,c,x1,x2,x3,x4⟩:=tb j h2'
          exact ⟨show 2 ≤ sizeLine by decide,[.str (txt (KU j).1) t1,.str (txt (KU j).2) t2],.cons ⟨t1,rfl⟩ (.cons ⟨t2,rfl⟩ .nil),ob,k2 _ _ x2,x3,c,x4⟩
    have hzp:(p.toList.map KU).Perm kvs:=by
      have e2:(List.range vs.length).map KU = kvs:=by
        apply List.ext_getElem
        · rw [List.length_map,List.length_range,hl]
        · intro i h1' h2'
          rw [List.getElem_map,List.getElem_range]
          show kvs.getD i ([],[]) = _
          rw [List.getD_eq_getElem?_getD,List.getElem?_eq_getElem h2']
          rfl
      rw [← e2]
      exact hpl.map KU
    refine ⟨.ref h1.objs.size,Hn,fin,rfl,q Hn h1.objs.size ys (p.toList.map KU) (fun b o e=>?_) (nH _ nbl) hHl hzp ?_ (by show (p.toList.map _).length = _; rw [List.length_map,List.length_map]) fun i kv e=>?_⟩
    · obtain ⟨ob,w3⟩:=(I.hok b o e).there
      show (if (s.heap.get? b).isSome = true then _ else _) = _
      rw [w3,if_pos (show (some ob).isSome = true from rfl)]
      exact e
    · rw [List.map_map,List.pairwise_map,List.pairwise_iff_getElem]
      intro i j hi hj hij
      rw [Array.length_toList,p1] at hi hj
      have:=p3 i j hij hj
      unfold KSrt.ky at this
      rw [show p.getD i 0 = p.toList[i]'(by rw [Array.length_toList,p1]; exact hi) by simp [Array.getD,p1,hi],show p.getD j 0 = p.toList[j]'(by rw [Array.length_toList,p1]; exact hj) by simp [Array.getD,p1,hj]] at this
      exact this
    · rw [List.getElem?_map] at e
      obtain ⟨j,e1,rfl⟩:=Option.map_eq_some_iff.mp e
      have hj:j < ws.length:=by rw [l1]; exact plt j (List.mem_of_getElem? e1)
      exact ⟨adr ws j,by show (p.toList.map _)[i]? = _; rw [List.getElem?_map,e1]; rfl,hHt j hj,nH _ (nad j hj)⟩
end
theorem turn_long {P:Program} {w:World} {K:PySem.W.Frag} {tg:Expr} (it:Addr) (lo:Int) (n:Nat):Turn P w K tg (Itr lo n) [it] it (fun i h=>IsLongIter h it (lo + (i:Nat) * 1) ((n:Int) - (i:Nat)) 1) where
  mem:=by simp
  obj:=fun i h st b hb=>by
    have e:b = it:=by simpa using hb
    subst e
    exact ⟨_,st,fun v z=>by
      have z':Data.fields _ = Data.cell v:=z
      cases z'⟩
  keep:=fun i h h' st k=>k it (by simp) _ st
  item:=by
    intro X hP hw hK hc i pins s σ H E I hf st hg
    subst hP hw hK
    obtain ⟨f0,f1,f2,f3,f4,f5⟩:=hf it (by simp)
    have W:=Walks.longrange (prog:=X.prog) (w:=X.w) (I.ok.hd hc) it lo 1 n
    refine W.item i s _ _ hg st fun v h' tk hv st' kk=>?_
    obtain ⟨t,rfl⟩:=hv
    have I1:Inv X pins σ H { s with heap:=h',toks:=tk }:=I.turned (fun b o hb e=>kk b o (by simpa using hb) e) f0 f1 f3 f4 f5
    refine ⟨_,rfl,go_of (s:={ s with heap:=h',toks:=tk }) (n:="longrange_iterator") st' rfl rfl (by decide) ⟨.int (lo + i),H,I1,⟨t,?_⟩,⟨rfl,rfl⟩,st',fun b hb=>(hf b hb).1⟩⟩
    rw [Int.mul_one]
  done:=by
    intro X hP hw hK hc i pins s σ H E I hf st hg
    subst hP hw hK
    obtain ⟨f0,f1,f2,f3,f4,f5⟩:=hf it (by simp)
    exact wpAny_pyNext_long_end (I.ok.hd hc) st (by have:n ≤ i:=hg; omega) fun h' eb=>⟨rfl,I.turned (t':=s.toks) (fun b o hb e=>eb b o hb e) f0 f1 f3 f4 f5⟩
  self:=fun _ _ _ _ _ st h=>wpAny_pyIter_longiter st h
section
variable {X:Cx} {tg:Expr}
theorem range_itB {pins:List (Addr × Obj)} {σ:St} {H:Hp} {s:Shared} {R:It→Hp→Prop} {E:Value→Shared→Prop} {lo hi:Int} {t u v:Tok} {tk:Nat} (I:Inv X pins σ H s)
    (q:R (Itr lo (hi - lo).toNat) H):wpAny (model X.prog X.w) X.A (pyIter (.ref s.heap.objs.size)) (PIE X pins σ tg R) E { s with heap:=s.heap.push { cls:=.type "range",data:=.fields #[.int lo t,.int hi u,.int 1 v] },toks:=tk }:=by
  have I1:Inv X pins σ H { s with heap:=s.heap.push { cls:=.type "range",data:=.fields #[.int lo t,.int hi u,.int 1 v] },toks:=tk }:=I.kept fun b o e=>Heap.get?_push_of_some _ e
  have e1:lo + ((0:Nat):Int) * 1 = lo:=by simp
  have e2:(((hi - lo).toNat:Nat):Int) - ((0:Nat):Int) = Builtin.Range.rangeSize lo hi 1:=by rw [rangeSize_one]; split <;> omega
  cases hsm:Builtin.Range.small lo hi 1 with
  | true=>
    refine wpAny_pyIter_range (IsRange.new ..) hsm ?_
    refine ⟨(s.heap.push { cls := .type "range", data := .fields #[.int lo t, .int hi u, .int 1 v] }).objs.size, [(s.heap.push { cls := .type "range", data := .fields #[.int lo t, .int hi u, .int 1 v] }).objs.size], _, _, H, rfl,
      I1.kept (t':=tk) fun b o e=>Heap.get?_push_of_some _ e,turn_range _ lo (hi - lo).toNat,?_,fun b hb=>?_,q⟩
    · show IsRangeIter _ _ (lo + ((0:Nat):Int) * 1) ((((hi - lo).toNat:Nat):Int) - ((0:Nat):Int)) 1
      rw [e1,e2]
      exact Heap.get?_push_size _ rfl
    · have e:b = (s.heap.push { cls:=.type "range",data:=.fields #[.int lo t,.int hi u,.int 1 v] }).objs.size:=by simpa using hb
      subst e
      exact I1.fpOk (Nat.le_refl _) (I1.hok.fresh (Nat.le_refl _))
  | false=>
    refine wpAny_pyIter_longrange (IsRange.new ..) hsm ?_
    refine ⟨(s.heap.push { cls := .type "range", data := .fields #[.int lo t, .int hi u, .int 1 v] }).objs.size, [(s.heap.push { cls := .type "range", data := .fields #[.int lo t, .int hi u, .int 1 v] }).objs.size], _, _, H, rfl,
      I1.kept (t':=tk) fun b o e=>Heap.get?_push_of_some _ e,turn_long _ lo (hi - lo).toNat,?_,fun b hb=>?_,q⟩
    · show IsLongIter _ _ (lo + ((0:Nat):Int) * 1) ((((hi - lo).toNat:Nat):Int) - ((0:Nat):Int)) 1
      rw [e1,e2]
      exact Heap.get?_push_size _ rfl
    · have e:b = (s.heap.push { cls:=.type "range",data:=.fields #[.int lo t,.int hi u,.int 1 v] }).objs.size:=by simpa using hb
      subst e
      exact I1.fpOk (Nat.le_refl _) (I1.hok.fresh (Nat.le_refl _))
def iRng2B (ta:TA):TI:=fun σ H R=>ta σ H fun vs H1=>∃ i j:Int,vs = [.int i,.int j]∧R (Itr i (j - i).toNat) H1
theorem pi_range2B {a b : Expr} {ta : TA} {p pos : Pos} (hg : Gl X "range") (hm : X.mg "range" = none) (ha : PA X [a, b] ta) (hs : starEach [a, b] X.env = [(false, eval a X.env), (false, eval b X.env)] := by rfl) (hs2 : starEach [b] X.env = [(false, eval b X.env)] := by rfl) :
    PI X tg (.Call (.Name "range" p) [a,b] [] pos) (iRng2B ta):=by
  intro pins s σ H R I h
  refine Call_ (ld_blt I hg hm boot_range (PyProof.Rows.callWith_type1 (thn (ha pos pins s σ H _ I h) fun us s1 ⟨vs,H1,I1,r1,q1⟩=>?_) (by rw [hs,hs2]) (by rw [hs2]; rfl)))
  obtain ⟨i,j,e,q⟩:=q1
  subst e
  cases r1 with
  | cons r rr=>
    cases rr with
    | cons r' rr=>
      cases rr
      obtain ⟨t,rfl⟩:=r
      obtain ⟨t',rfl⟩:=r'
      exact call_range_2 (range_itB I1 q)
theorem ki_range2B {a b : Expr} {ta : TA} {p pos : Pos} (hm : X.mg "range" = none) (ha : QA X [a, b] ta) (hg : X.env.kindOf "range" = some .globalImplicit := by kernel_rfl) (hs : starEach [a, b] X.env = [(false, eval a X.env), (false, eval b X.env)] := by kernel_rfl) (hs2 : starEach [b] X.env = [(false, eval b X.env)] := by kernel_rfl) : QI X tg (.Call (.Name "range" p) [a, b] [] pos) (iRng2B ta) := ⟨pi_range2B hg hm ha.p hs hs2⟩
theorem for_r2B {ta:TA} {g:TG} {tb:TS} {D:Ends} {σ:St} {H:Hp} {l j:Int} (ha:∀ Q:List V→Hp→Prop,Q [.int l,.int j] H→ta σ H Q)
    (Pv:Nat→St→Hp→Prop) (h0:Pv 0 σ H) (hs:∀ (i:Nat) σ H,l + (i:Int) < j→Pv i σ H→g (.int (l + i)) σ H fun σ2 H2=>tb { D with nx:=Pv (i + 1),ct:=Pv (i + 1),bk:=D.nx } σ2 H2)
    (hd:∀ σ H,Pv (j - l).toNat σ H→D.nx σ H):tFor (iRng2B ta) g tb D σ H:=by
  refine ha _ ⟨l,j,rfl,?_⟩
  exact for_range (lo:=l) (n:=(j - l).toNat) Pv h0 (fun i σ H hi p=>hs i σ H (by omega) p) hd
end
end L2
local macro_rules | `(tactic| and_intros)=>`(tactic| simp only [L2.tCompSet,L2.tRaise,L2.tIsi,L2.tSeq,L2.tAsg,L2.gName,L2.tOp,L2.tVar,L2.tC,L2.tTest,L2.tB,L2.tIf,L2.tIfS,L2.tAnd,L2.tOr,L2.tNot,L2.tAndV,L2.tRet,L2.tNext,L2.tDrop,L2.tCB,L2.tCons,L2.tNil,L2.tBM,L2.tBM0,L2.tCall,L2.tLst,L2.tTup,L2.tSl,L2.tPart,L2.tNoPart,L2.tIsN,L2.tNotN,L2.tYes,L2.rI0,L2.rI,L2.rEq,L2.rNe,L2.start,L2.compSt,List.map_cons,List.map_nil,List.length_cons,List.length_nil,List.replicate_succ,List.replicate_zero,List.cons_append,List.nil_append,List.append_nil,List.getElem?_cons_zero,List.getElem?_cons_succ,List.set_cons_zero,List.set_cons_succ,Option.some.injEq,Option.join_some,L2.V.int.injEq,L2.V.str.injEq,L2.V.bl.injEq,L2.V.ref.injEq,L2.txt_inj,exists_eq_left',exists_eq_left,exists_and_left,and_true,true_and,decide_eq_true_eq,reduceCtorEq,decide_false,decide_true,Bool.not_false,Bool.not_true,if_true,if_false,Bool.false_eq_true,Nat.reduceAdd,Nat.reduceSub,Bool.not_eq_true',decide_eq_false_iff_not,not_true_eq_false,not_false_eq_true])
local macro_rules | `(tactic| simp? [$t,*])=>`(tactic| simp only [$t,*,L2.tCompSet,L2.tRaise,L2.tIsi,L2.tSeq,L2.tAsg,L2.gName,L2.tOp,L2.tVar,L2.tC,L2.tTest,L2.tB,L2.tIf,L2.tIfS,L2.tAnd,L2.tOr,L2.tNot,L2.tAndV,L2.tRet,L2.tNext,L2.tDrop,L2.tCB,L2.tCons,L2.tNil,L2.tBM,L2.tBM0,L2.tCall,L2.tLst,L2.tTup,L2.tSl,L2.tPart,L2.tNoPart,L2.tIsN,L2.tNotN,L2.tYes,L2.rI0,L2.rI,L2.rEq,L2.rNe,L2.start,L2.compSt,List.map_cons,List.map_nil,List.length_cons,List.length_nil,List.replicate_succ,List.replicate_zero,List.cons_append,List.nil_append,List.append_nil,List.getElem?_cons_zero,List.getElem?_cons_succ,List.set_cons_zero,List.set_cons_succ,Option.some.injEq,Option.join_some,L2.V.int.injEq,L2.V.str.injEq,L2.V.bl.injEq,L2.V.ref.injEq,L2.txt_inj,exists_eq_left',exists_eq_left,exists_and_left,and_true,true_and,decide_eq_true_eq,reduceCtorEq,decide_false,decide_true,Bool.not_false,Bool.not_true,if_true,if_false,Bool.false_eq_true,Nat.reduceAdd,Nat.reduceSub,Bool.not_eq_true',decide_eq_false_iff_not,not_true_eq_false,not_false_eq_true])
namespace L2
open PySem PySem.Spec PyProof.Rows MM
def spDraw (K:PySem.W.Frag):Sp:=fun vs H Q _=>∃ (a:Addr) (ns:List Int) (k m:Int),vs = [.ref a,.int k,.int m]∧SqL K H a (ns.map V.int)∧ns.length ≤ 63∧0 ≤ k∧k < 1048576∧0 < m∧∀ r:Int,0 ≤ r→r < m→Q (.int r) H
def rdDraw (K:PySem.W.Frag):TS:=
    tSeq (tAsg (tIf (tTest (tOp rGtI (tCB (rLenL K) (tCons (tVar 0) tNil)) (tC (.int 0)))) (tOp (rIxL K) (tVar 0) (tOp rModI (tVar 1) (tCB (rLenL K) (tCons (tVar 0) tNil)))) (tC (.int 0))) (gName 3))
      (tSeq (tIfS (tAnd (tTest (tOp rGtI (tCB (rLenL K) (tCons (tVar 0) tNil)) (tC (.int 0)))) (tTest (tOp rEq (tOp rModI (tOp (rIxL K) (tVar 0) (tC (.int 0))) (tC (.int 2))) (tC (.int 1))))) (tRet (tOp rModI (tOp rModI (tOp rShrI (tVar 3) (tOp rAddI (tOp rMulI (tC (.int 20)) (tOp rDivI (tVar 1) (tCB (rLenL K) (tCons (tVar 0) tNil)))) (tC (.int 1)))) (tC (.int 1048576))) (tVar 2))) (tNext))
      (tSeq (tAsg (tOp rAddI (tOp rAddI (tOp rModI (tVar 3) (tC (.int 1000003))) (tOp rMulI (tOp rMulI (tC (.int 31)) (tVar 1)) (tVar 1))) (tC (.int 1))) (gName 4))
      (tRet (tOp rModI (tOp rModI (tOp rMulI (tOp rModI (tOp rMulI (tVar 4) (tC (.int 48271))) (tC (.int 999983))) (tC (.int 7919))) (tC (.int 524287))) (tVar 2)))))
theorem draw_end {i k m:Int} {Q:Int→Prop} (h0:0 ≤ k) (h1:k < 1048576) (h2:0 < m) (q:∀ r:Int,0 ≤ r→r < m→Q r) :
    (0:Int) < 1000003∧CMulB 31 k∧CMulB (31 * k) k∧CMulB (i % 1000003 + 31 * k * k + 1) 48271∧(0:Int) < 999983∧CMulB ((i % 1000003 + 31 * k * k + 1) * 48271 % 999983) 7919∧(0:Int) < 524287∧0 < m∧
      Q ((i % 1000003 + 31 * k * k + 1) * 48271 % 999983 * 7919 % 524287 % m):=
  ⟨by decide,mulB_l (by decide) (by decide),mulB_r (by omega) (by omega),mulB_r (by decide) (by decide),by decide,mulB_r (by decide) (by decide),by decide,h2,q _ (Int.emod_nonneg _ (by omega)) (Int.emod_lt_of_pos _ h2)⟩
theorem draw_shr {i k m:Int} {x:Int} {Q:Int→Prop} (h0:0 ≤ k) (hx:0 < x) (hx2:x ≤ 63) (h2:0 < m) (q:∀ r:Int,0 ≤ r→r < m→Q r) :
    CDiv k x∧CMulB 20 (k / x)∧0 ≤ 20 * (k / x) + 1∧(0:Int) < 1048576∧0 < m∧Q (i / 2 ^ (20 * (k / x) + 1).toNat % 1048576 % m):=by
  have e:0 ≤ k / x:=Int.ediv_nonneg h0 (by omega)
  exact ⟨cdiv hx (by omega),mulB_l (by decide) (by decide),by omega,by decide,h2,q _ (Int.emod_nonneg _ (by omega)) (Int.emod_lt_of_pos _ h2)⟩
theorem read_draw {K:PySem.W.Frag} {N:List Str} {vs:List V} {H:Hp} {Q:VK} {E:XK} (hN:N.length = 5) (h:spDraw K vs H Q E):rdDraw K { nx:=fun _ H'=>Q .non H',rt:=Q } (L2.start N vs) H:=by
  obtain ⟨a,ns,k,m,rfl,hS,hl,h0,h1,h2,q⟩:=h
  unfold rdDraw L2.start
  rw [hN]
  and_intros
  refine lenI_go hS ⟨_,rfl,?_⟩
  by_cases hn:(0:Int) < (ns.length:Int)
  · rw [if_pos hn]
    refine lenI_go hS ⟨_,rfl,hn,ixI_go hS (Int.emod_nonneg _ (by omega)) (Int.emod_lt_of_pos _ hn) fun z _ _=>?_⟩
    refine lenI_go hS ⟨_,rfl,?_⟩
    rw [if_pos hn]
    refine ixI_go hS (by decide) hn fun z0 _ _=>⟨_,rfl,by decide,rfl,?_⟩
    split
    · refine lenI_go hS ⟨_,rfl,?_⟩
      have:=draw_shr (i:=z) (Q:=fun r=>Q (.int r) H) h0 hn (by omega) h2 q
      exact ⟨this.1,this.2.1,_,rfl,this.2.2⟩
    · exact ⟨_,rfl,draw_end (Q:=fun r=>Q (.int r) H) h0 h1 h2 q⟩
  · rw [if_neg hn]
    refine lenI_go hS ⟨_,rfl,?_⟩
    rw [if_neg hn]
    exact draw_end (Q:=fun r=>Q (.int r) H) h0 h1 h2 q
def spEnds:Sp:=fun vs H Q _=>∃ (K h j:Nat),vs = [.int K,.int h,.int j]∧K ≤ 26∧0 < h∧∀ H',Same H H'→Q (.str (txt (endsL K h j))) H'
def rdEnds (K:PySem.W.Frag):TS:=
    tRet (tBM K "str" (rJoin K) (tC (.str (txt []))) (tCons (tComp (iRng2 (tCons (tC (.int 1)) (tCons (tVar 0) tNil))) [2,1] (tTest (tOp rEq (tOp rModI (tOp rSubI (tVar 0) (tC (.int 1))) (tVar 2)) (tVar 1))) (tOp rIxStr (tC (.str (txt ABC))) (tVar 0))) tNil))
theorem flat_ones (l:List Nat):(l.map fun c=>[c]).flatten = l:=by
  induction l with
  | nil=>rfl
  | cons c l ih=>rw [List.map_cons,List.flatten_cons,ih]; rfl
theorem sum_ones (l:List Nat):((l.map fun c=>[c]).map (·.length)).sum = l.length:=by
  induction l with
  | nil=>rfl
  | cons c l ih=>simp only [List.map_cons,List.sum_cons,ih,List.length_cons,List.length_nil]; omega
theorem read_ends {K:PySem.W.Frag} {N:List Str} {vs:List V} {H:Hp} {Q:VK} {E:XK} (hN:N.length = 3) (h:spEnds vs H Q E):rdEnds K { nx:=fun _ H'=>Q .non H',rt:=Q } (L2.start N vs) H:=by
  obtain ⟨n,h,j,rfl,hn,hh,q⟩:=h
  unfold rdEnds L2.start
  rw [hN]
  and_intros
  refine ⟨rfl,?_⟩
  refine comp_r2 (l:=1) (j:=n) (fun Q h=>⟨_,rfl,h⟩) (by decide) (by decide) (by omega) (by omega) (Nat.le_trans (show ((n:Int) - 1).toNat ≤ 100000 by omega) (by decide))
    (fun i ys H'=>H' = H∧ys = ((List.range i).filter (fun i=>decide (i % h = j))).map (fun i=>strV [98 + i])) ⟨rfl,rfl⟩
    (fun i ys H' _ p=>by rw [p.2,List.length_map]; exact Nat.le_trans (List.length_filter_le _ _) (by rw [List.length_range]; exact Nat.le_refl _)) ?_ ?_
  · rintro i ys H' hi ⟨rfl,rfl⟩ R hR
    and_intros
    have e1:(1 + (i:Int) - 1) % (h:Int) = ((i % h:Nat):Int):=by rw [show (1 + (i:Int) - 1) = (i:Int) by omega]; exact (Int.natCast_emod i h).symm
    rw [e1]
    refine ⟨by omega,rfl,?_⟩
    rw [List.range_succ,List.filter_append,List.map_append] at hR
    split
    · rename_i e
      refine ixABC_go (by omega) (by omega) (hR _ _ ⟨rfl,?_⟩)
      rw [show (1 + (i:Int)).toNat = i + 1 by omega,List.filter_cons_of_pos (by simpa using (show i % h = j by omega))]
      simp only [List.filter_nil,List.map_cons,List.map_nil]
      rw [show 97 + (i + 1) = 98 + i by omega]; rfl
    · rename_i e
      refine hR _ _ ⟨rfl,?_⟩
      rw [List.filter_cons_of_neg (by simpa using (show ¬ i % h = j by omega))]
      simp
  · rintro ys H' ⟨rfl,rfl⟩ p hp
    refine ⟨[],p,(endsL n h j).map (fun c=>[c]),rfl,rfl,?_,?_,?_⟩
    · refine .inl (.inl (Eq.trans upd_same (congrArg (fun l=>some (HO.lst l)) ?_)))
      unfold endsL
      rw [show ((n:Int) - 1).toNat = n - 1 by omega,List.map_map,List.map_map]
      rfl
    · rw [sum_ones,List.length_map]
      have:(endsL n h j).length ≤ 26:=by
        unfold endsL
        rw [List.length_map]
        exact Nat.le_trans (List.length_filter_le _ _) (by rw [List.length_range]; omega)
      simp only [List.length_nil]; omega
    · rw [joinL_nil,flat_ones]
      exact q _ (Same.up _ hp)
def oV:Option (List Nat)→V
  | none=>.non
  | some l=>.str (txt l)
def figO:Option (List Nat)→Nat→Nat
  | none,_=>0
  | some l,i=>fig l i
def valO (K:Nat):Option (List Nat)→Nat→Nat
  | none,_=>0
  | some l,n=>val K l n
def OkO:Option (List Nat)→Prop
  | none=>True
  | some l=>Ls 26 l∧l.length ≤ 100000
theorem valO_zero (K:Nat) (o:Option (List Nat)):valO K o 0 = 0:=by cases o <;> simp [valO,val_zero]
theorem valO_succ (K:Nat) (o:Option (List Nat)) (n:Nat):valO K o (n + 1) = valO K o n * K + figO o n:=by
  cases o with
  | none=>simp [valO,figO]
  | some l=>exact val_succ K l n
def spFig:Sp:=fun vs H Q _=>∃ (o:Option (List Nat)) (i:Nat),vs = [oV o,.int i]∧OkO o∧Q (.int (figO o i:Nat)) H
def rdFig (K:PySem.W.Frag):TS:=
    tSeq (tIfS (tOr (tB (tIsN (tVar 0))) (tTest (tOp rGeI (tVar 1) (tCB rLenS (tCons (tVar 0) tNil))))) (tRet (tC (.int 0))) (tNext))
      (tRet (tBM K "str" rIndex (tC (.str (txt ABC))) (tCons (tOp rIxStr (tVar 0) (tVar 1)) tNil)))
theorem read_fig {K:PySem.W.Frag} {N:List Str} {vs:List V} {H:Hp} {Q:VK} {E:XK} (hN:N.length = 2) (h:spFig vs H Q E):rdFig K { nx:=fun _ H'=>Q .non H',rt:=Q } (L2.start N vs) H:=by
  obtain ⟨o,i,rfl,ho,q⟩:=h
  unfold rdFig L2.start
  rw [hN]
  cases o with
  | none=>
    simp? [oV]
    exact q
  | some l=>
    obtain ⟨hl,hz⟩:=ho
    simp? [oV]
    refine lenS_go hz ⟨_,rfl,?_⟩
    by_cases hi:l.length ≤ i
    · rw [if_pos (by omega)]
      have e:figO (some l) i = 0:=by simp [figO,fig,List.getElem?_eq_none hi]
      rw [e] at q
      exact q
    · rw [if_neg (by omega)]
      have hi':i < l.length:=by omega
      have e:figO (some l) i = l[i] - 97:=by simp [figO,fig,hi']
      have hc:=hl l[i] (List.getElem_mem hi')
      rw [e] at q
      exact ⟨rfl,ixS_go hz (by omega) (by simp [hi']) (idxABC_go hc.1 hc.2 q)⟩
def spWhole:Sp:=fun vs H Q _=>∃ (L:Nat) (o:Option (List Nat)) (n:Nat),vs = [.int L,oV o,.int n]∧L ≤ 26∧OkO o∧n ≤ 100000∧Q (.int (valO L o n:Nat)) H
def rdWhole:TS:=
    tSeq (tAsg (tC (.int 0)) (gName 3))
      (tSeq (tFor (iRng1 (tCons (tVar 2) tNil)) (gName 4) (tAsg (tOp rAddI (tOp rMulI (tVar 3) (tVar 0)) (tCall spFig [] E0 (tCons (tVar 1) (tCons (tVar 4) tNil)))) (gName 3)))
      (tRet (tVar 3)))
theorem read_whole {N:List Str} {vs:List V} {H:Hp} {Q:VK} {E:XK} (hN:N.length = 5) (h:spWhole vs H Q E):rdWhole { nx:=fun _ H'=>Q .non H',rt:=Q } (L2.start N vs) H:=by
  obtain ⟨L,o,n,rfl,hL,ho,hn,q⟩:=h
  unfold rdWhole L2.start
  rw [hN]
  and_intros
  refine for_r1 (j:=n) (fun Q h=>⟨_,rfl,h⟩) (by omega) (by omega) (fun i σ H'=>H' = H∧∃ v4,σ = [some (.int L),some (oV o),some (.int n),some (.int (valO L o i:Nat)),v4]) ⟨rfl,_,by rw [valO_zero]; rfl⟩ ?_ ?_
  · rintro i σ H1 hi ⟨rfl,v4,rfl⟩
    and_intros
    refine ⟨mulB_r (by omega) (by omega),o,i,rfl,ho,?_⟩
    and_intros
    exact ⟨some (.int i),by rw [valO_succ,Int.natCast_add,Int.natCast_mul]⟩
  · rintro σ H1 ⟨rfl,v4,rfl⟩
    and_intros
    rw [Int.toNat_natCast]
    exact q
def spMarkOf:Sp:=fun vs H Q _=>∃ (L r n:Nat),vs = [.int L,.int r,.int n]∧0 < L∧L ≤ 26∧n ≤ 100000∧Q (.str (txt (mk L r n))) H
def rdMarkOf (K:PySem.W.Frag):TS:=
    tSeq (tAsg (tC (.str (txt []))) (gName 3))
      (tSeq (tAsg (tVar 1) (gName 4))
      (tSeq (tFor (iRng1 (tCons (tVar 2) tNil)) (gName 5) (tSeq (tAsg (tOp rAddS (tOp rIxStr (tC (.str (txt ABC))) (tOp rModI (tVar 4) (tVar 0))) (tVar 3)) (gName 3))
      (tAsg (tOp rDivI (tVar 4) (tVar 0)) (gName 4))))
      (tRet (tBM K "str" rRstrip (tVar 3) (tCons (tC (.str (txt [97]))) tNil)))))
theorem read_markOf {K:PySem.W.Frag} {N:List Str} {vs:List V} {H:Hp} {Q:VK} {E:XK} (hN:N.length = 6) (h:spMarkOf vs H Q E):rdMarkOf K { nx:=fun _ H'=>Q .non H',rt:=Q } (L2.start N vs) H:=by
  obtain ⟨L,r,n,rfl,hL0,hL,hn,q⟩:=h
  unfold rdMarkOf L2.start
  rw [hN]
  and_intros
  refine for_r1 (j:=n) (fun Q h=>⟨_,rfl,h⟩) (by omega) (by omega) (fun i σ H'=>H' = H∧∃ v5,σ = [some (.int L),some (.int r),some (.int n),some (.str (txt (low L r i))),some (.int (r / L ^ i:Nat)),v5]) ⟨rfl,_,by rw [Nat.pow_zero,Nat.div_one]; rfl⟩ ?_ ?_
  · rintro i σ H1 hi ⟨rfl,v5,rfl⟩
    have e1:((r / L ^ i:Nat):Int) % (L:Int) = ((r / L ^ i % L:Nat):Int):=(Int.natCast_emod _ _).symm
    have e2:((r / L ^ i:Nat):Int) / (L:Int) = ((r / L ^ (i + 1):Nat):Int):=by rw [Nat.pow_succ,← Nat.div_div_eq_div_mul]; exact (Int.natCast_ediv _ _).symm
    have hb:=Nat.mod_lt (r / L ^ i) hL0
    and_intros
    rw [e1,e2]
    refine ⟨by omega,ixABC_go (by omega) (by omega) (addS_go (by rw [low_length]; simp only [List.length_cons,List.length_nil]; omega) ⟨cdiv (by omega) (by omega),?_⟩)⟩
    exact ⟨rfl,some (.int i),by rw [Int.toNat_natCast]; rfl⟩
  · rintro σ H1 ⟨rfl,v5,rfl⟩
    and_intros
    rw [Int.toNat_natCast]
    exact ⟨rfl,rstrip_go (by rw [low_length]; exact hn) q⟩
theorem Same.set {H H':Hp} {p:Addr} {o:HO} (s:Same H H') (hp:H p = none):Same H (upd H' p o):=fun b q e=>by
  have:=s b q e
  rw [upd_ne (ne_of_none e hp)]; exact this
theorem some_at {α:Type} {l:List α} {i:Nat} (h:i < l.length):∃ c,l[i]? = some c:=⟨l[i],List.getElem?_eq_getElem h⟩
def spLWhole:Sp:=fun vs H Q _=>∃ (L:Nat) (l:List Nat) (n:Nat),vs = [.int L,.str (txt l),.int n]∧L ≤ 26∧Ls 26 l∧l.length ≤ 100000∧n ≤ 100000∧Q (.int (val L l n:Nat)) H
def spPower:Sp:=fun vs H Q _=>∃ (L n:Nat),vs = [.int L,.int n]∧L ≤ 26∧n ≤ 100000∧Q (.int (L ^ n:Nat)) H
def rdPower:TS:=
    tSeq (tAsg (tC (.int 1)) (gName 2))
      (tSeq (tFor (iRng1 (tCons (tVar 1) tNil)) (gName 3) (tAsg (tOp rMulI (tVar 2) (tVar 0)) (gName 2)))
      (tRet (tVar 2)))
theorem read_power {N:List Str} {vs:List V} {H:Hp} {Q:VK} {E:XK} (hN:N.length = 4) (h:spPower vs H Q E):rdPower { nx:=fun _ H'=>Q .non H',rt:=Q } (L2.start N vs) H:=by
  obtain ⟨L,n,rfl,hL,hn,q⟩:=h
  unfold rdPower L2.start
  rw [hN]
  and_intros
  refine for_r1 (j:=n) (fun Q h=>⟨_,rfl,h⟩) (by omega) (by omega) (fun i σ H'=>H' = H∧∃ v3,σ = [some (.int L),some (.int n),some (.int (L ^ i:Nat)),v3]) ⟨rfl,_,rfl⟩ ?_ ?_
  · rintro i σ H1 hi ⟨rfl,v3,rfl⟩
    and_intros
    exact ⟨mulB_r (by omega) (by omega),some (.int i),by rw [Nat.pow_succ,Int.natCast_mul]⟩
  · rintro σ H1 ⟨rfl,v3,rfl⟩
    and_intros
    rw [Int.toNat_natCast]
    exact q
def highO (L:Nat):Option (List Nat)→Nat→Nat
  | none,n=>L ^ n
  | some h,n=>val L h n
def spHigh:Sp:=fun vs H Q _=>∃ (L:Nat) (o:Option (List Nat)) (n:Nat),vs = [.int L,oV o,.int n]∧L ≤ 26∧OkO o∧n ≤ 100000∧Q (.int (highO L o n:Nat)) H
def rdHigh:TS:=
    tSeq (tIfS (tB (tIsN (tVar 1))) (tRet (tCall spPower [] E0 (tCons (tVar 0) (tCons (tVar 2) tNil)))) (tNext))
      (tRet (tCall spWhole [] E0 (tCons (tVar 0) (tCons (tVar 1) (tCons (tVar 2) tNil)))))
theorem read_high {N:List Str} {vs:List V} {H:Hp} {Q:VK} {E:XK} (hN:N.length = 3) (h:spHigh vs H Q E):rdHigh { nx:=fun _ H'=>Q .non H',rt:=Q } (L2.start N vs) H:=by
  obtain ⟨L,o,n,rfl,hL,ho,hn,q⟩:=h
  unfold rdHigh L2.start
  rw [hN]
  cases o with
  | none=>
    simp? [oV]
    exact ⟨L,n,rfl,hL,hn,q⟩
  | some h=>
    simp? [oV]
    exact ⟨L,some h,n,rfl,hL,ho,hn,q⟩
def spBelow:Sp:=fun vs H Q _=>∃ (L:Nat) (es:List Nat) (n:Nat),vs = [.int L,.str (txt es),.int n]∧0 < L∧L ≤ 26∧es.length ≤ 26∧∀ H',Same H H'→Q (.int (ob L es n:Nat)) H'
def rdBelow (K:PySem.W.Frag):TS:=
    tSeq (tCompSet 3 (iStr (tVar 1)) [2,0] (tTest (tOp rLtS (tVar 0) (tOp rIxStr (tC (.str (txt ABC))) (tOp rModI (tVar 1) (tVar 2))))) (tVar 0))
      (tRet (tOp rAddI (tOp rMulI (tOp rDivI (tVar 2) (tVar 0)) (tCB rLenS (tCons (tVar 1) tNil))) (tCB (rLenL K) (tCons (tVar 3) tNil))))
theorem one_lt (a b:Nat):([a] < [b]) ↔ a < b:=by
  rw [List.cons_lt_cons_iff]
  constructor
  · rintro (h | ⟨_,h⟩)
    · exact h
    · exact absurd h (List.not_lt_nil _)
  · exact .inl
theorem read_below {K:PySem.W.Frag} {N:List Str} {vs:List V} {H:Hp} {Q:VK} {E:XK} (hN:N.length = 4) (h:spBelow vs H Q E):rdBelow K { nx:=fun _ H'=>Q .non H',rt:=Q } (L2.start N vs) H:=by
  obtain ⟨L,es,n,rfl,hL0,hL,hes,q⟩:=h
  unfold rdBelow L2.start
  rw [hN]
  have hm:=Nat.mod_lt n hL0
  have e1:(n:Int) % (L:Int) = ((n % L:Nat):Int):=(Int.natCast_emod _ _).symm
  have e2:(n:Int) / (L:Int) = ((n / L:Nat):Int):=(Int.natCast_ediv _ _).symm
  and_intros
  refine comp_s (l:=es) (fun Q h=>⟨_,rfl,h⟩) (Nat.le_trans (show es.length ≤ 100000 by omega) (by decide)) (fun i ys H'=>H' = H∧ys = ((es.take i).filter fun e=>decide (e < 97 + n % L)).map (fun c=>strV [c])) ⟨rfl,rfl⟩
    (fun i ys H' _ p=>by rw [p.2,List.length_map]; exact Nat.le_trans (List.length_filter_le _ _) (by rw [List.length_take]; omega)) ?_ ?_
  · rintro i c ys H' hc ⟨rfl,rfl⟩ R hR
    and_intros
    rw [e1]
    refine ⟨by omega,ixABC_go (by omega) (by omega) ⟨_,_,rfl,rfl,_,rfl,?_⟩⟩
    rw [Int.toNat_natCast]
    rw [List.take_succ,hc,List.filter_append,List.map_append] at hR
    by_cases hlt:c < 97 + n % L
    · rw [decide_eq_true ((one_lt _ _).mpr hlt),if_pos rfl]
      refine hR _ _ ⟨rfl,?_⟩
      show _ = _ ++ List.map _ (List.filter _ [c])
      rw [List.filter_cons_of_pos (by simpa using hlt)]; rfl
    · rw [decide_eq_false (fun z=>hlt ((one_lt _ _).mp z)),if_neg (by decide)]
      refine hR _ _ ⟨rfl,?_⟩
      show _ = _ ++ List.map _ (List.filter _ [c])
      rw [List.filter_cons_of_neg (by simpa using hlt)]; simp
  · rintro ys H' ⟨rfl,rfl⟩ p hp
    rw [e2]
    refine ⟨cdiv (by omega) (by omega),lenS_go (by omega) ⟨_,rfl,mulB_r (by omega) (by omega),?_⟩⟩
    refine lenL_go SqL.here ⟨_,rfl,?_⟩
    rw [List.length_map,List.take_length]
    have:=q _ (Same.up H' hp (o:=HO.lst ((es.filter fun e=>decide (e < 97 + n % L)).map (fun c=>strV [c]))))
    unfold ob MM.cnt at this
    rw [Int.natCast_add,Int.natCast_mul] at this
    exact this
def spUpLow:Sp:=fun vs H Q _=>∃ (L:Nat) (es:List Nat) (n:Nat),vs = [.int L,.str (txt es),.int n]∧0 < L∧L ≤ 26∧es.length ≤ 26∧∀ H',Same H H'→Q (.int (ob L es (n + 1):Nat)) H'
def rdUpLow:TS:=tRet (tCall spBelow [] E0 (tCons (tVar 0) (tCons (tVar 1) (tCons (tOp rAddI (tVar 2) (tC (.int 1))) tNil))))
theorem read_upLow {N:List Str} {vs:List V} {H:Hp} {Q:VK} {E:XK} (hN:N.length = 3) (h:spUpLow vs H Q E):rdUpLow { nx:=fun _ H'=>Q .non H',rt:=Q } (L2.start N vs) H:=by
  obtain ⟨L,es,n,rfl,hL0,hL,hes,q⟩:=h
  unfold rdUpLow L2.start
  rw [hN]
  and_intros
  exact ⟨L,es,n + 1,rfl,hL0,hL,hes,q⟩
def aheadN:Option (List Nat)→Nat→Nat→Nat
  | none,w,_=>w
  | some h,w,n=>if n < h.length then w + 1 else w
def aheadB (b:Bool) (o:Option (List Nat)) (w n:Nat):Nat:=if b = true then aheadN o w n else w
def spAhead:Sp:=fun vs H Q _=>∃ (L:Nat) (es:List Nat) (o:Option (List Nat)) (w n:Nat) (b:Bool),vs = [.int L,.str (txt es),oV o,.int w,.int n,.bl b]∧0 < L∧L ≤ 26∧es.length ≤ 26∧OkO o∧∀ H',Same H H'→Q (.int (ob L es (aheadB b o w n):Nat)) H'
def rdAhead:TS:=
    tSeq (tIfS (tAnd (tB (tVar 5)) (tAnd (tB (tNotN (tVar 2))) (tTest (tOp rLtI (tVar 4) (tCB rLenS (tCons (tVar 2) tNil)))))) (tRet (tCall spBelow [] E0 (tCons (tVar 0) (tCons (tVar 1) (tCons (tOp rAddI (tVar 3) (tC (.int 1))) tNil))))) (tNext))
      (tRet (tCall spBelow [] E0 (tCons (tVar 0) (tCons (tVar 1) (tCons (tVar 3) tNil)))))
theorem read_ahead {N:List Str} {vs:List V} {H:Hp} {Q:VK} {E:XK} (hN:N.length = 6) (h:spAhead vs H Q E):rdAhead { nx:=fun _ H'=>Q .non H',rt:=Q } (L2.start N vs) H:=by
  obtain ⟨L,es,o,w,n,b,rfl,hL0,hL,hes,ho,q⟩:=h
  unfold rdAhead L2.start
  rw [hN]
  cases b with
  | false=>
    and_intros
    exact ⟨L,es,w,rfl,hL0,hL,hes,q⟩
  | true=>
    cases o with
    | none=>
      simp? [oV]
      exact ⟨L,es,w,rfl,hL0,hL,hes,q⟩
    | some h=>
      simp? [oV]
      refine lenS_go ho.2 ⟨_,rfl,?_⟩
      have ea:aheadB true (some h) w n = if n < h.length then w + 1 else w:=rfl
      rw [ea] at q
      by_cases hn:n < h.length
      · rw [if_pos (by omega)]
        rw [if_pos hn] at q
        exact ⟨L,es,w + 1,rfl,hL0,hL,hes,q⟩
      · rw [if_neg (by omega)]
        rw [if_neg hn] at q
        exact ⟨L,es,w,rfl,hL0,hL,hes,q⟩
def OkLH (lo hi:Option (List Nat)):Prop:=∀ l h,lo = some l→hi = some h→l < h
def spAskRoom (c:Addr):Sp:=fun vs H Q E=>∃ lo hi:Option (List Nat),vs = [oV lo,oV hi]∧(OkLH lo hi→Q .non H)∧(¬ OkLH lo hi→E (.ref c) none H)
def rdAskRoom (c:Addr) (E:XK) (m:List Nat):TS:=
    tIfS (tAnd (tB (tNotN (tVar 0))) (tAnd (tB (tNotN (tVar 1))) (tTest (tOp rGeS (tVar 0) (tVar 1))))) (tRaise (.ref c) E (tCons (tC (.str (txt m))) tNil)) (tNext)
theorem read_askRoom {c:Addr} {m:List Nat} {N:List Str} {vs:List V} {H:Hp} {Q:VK} {E:XK} (hN:N.length = 2) (h:spAskRoom c vs H Q E):rdAskRoom c E m { nx:=fun _ H'=>Q .non H',rt:=Q } (L2.start N vs) H:=by
  obtain ⟨lo,hi,rfl,q1,q2⟩:=h
  unfold rdAskRoom L2.start
  rw [hN]
  cases lo with
  | none=>
    simp? [oV]
    exact q1 (fun l h e=>nomatch e)
  | some l=>
    cases hi with
    | none=>
      simp? [oV]
      exact q1 (fun l h _ e=>nomatch e)
    | some h=>
      simp? [oV]
      refine ⟨l,h,rfl,rfl,_,rfl,?_⟩
      by_cases hl:l < h
      · rw [decide_eq_true hl,if_neg (by decide)]
        exact q1 (fun l' h' e1 e2=>by cases e1; cases e2; exact hl)
      · rw [decide_eq_false hl,if_pos (by decide)]
        exact ⟨by decide,q2 (fun z=>hl (z l h rfl rfl))⟩
def roomB (b:Bool) (L:Nat) (es:List Nat) (lo hi:Option (List Nat)) (n:Nat):Int:=(ob L es (aheadB b hi (highO L hi n) n):Nat) - (ob L es (valO L lo n + 1):Nat)
def spCounted:Sp:=fun vs H Q _=>∃ (L:Nat) (es:List Nat) (lo hi:Option (List Nat)) (n:Nat) (b:Bool),vs = [.int L,.str (txt es),oV lo,oV hi,.int n,.bl b]∧0 < L∧L ≤ 26∧es.length ≤ 26∧OkO lo∧OkO hi∧n ≤ 100000∧∀ H',Same H H'→Q (.int (roomB b L es lo hi n)) H'
def rdCounted:TS:=
    tSeq (tAsg (tCall spWhole [] E0 (tCons (tVar 0) (tCons (tVar 2) (tCons (tVar 4) tNil)))) (gName 6))
      (tSeq (tAsg (tCall spHigh [] E0 (tCons (tVar 0) (tCons (tVar 3) (tCons (tVar 4) tNil)))) (gName 7))
      (tSeq (tAsg (tCall spAhead [] E0 (tCons (tVar 0) (tCons (tVar 1) (tCons (tVar 3) (tCons (tVar 7) (tCons (tVar 4) (tCons (tVar 5) tNil))))))) (gName 8))
      (tRet (tOp rSubI (tVar 8) (tCall spUpLow [] E0 (tCons (tVar 0) (tCons (tVar 1) (tCons (tVar 6) tNil))))))))
theorem read_counted {N:List Str} {vs:List V} {H:Hp} {Q:VK} {E:XK} (hN:N.length = 9) (h:spCounted vs H Q E):rdCounted { nx:=fun _ H'=>Q .non H',rt:=Q } (L2.start N vs) H:=by
  obtain ⟨L,es,lo,hi,n,b,rfl,l0,l26,hes,olo,ohi,hn,q⟩:=h
  unfold rdCounted L2.start
  rw [hN]
  and_intros
  refine ⟨L,lo,n,rfl,l26,olo,hn,?_⟩
  refine ⟨L,hi,n,rfl,l26,ohi,hn,?_⟩
  refine ⟨L,_,hi,_,n,b,rfl,l0,l26,hes,ohi,fun H2 s2=>?_⟩
  refine ⟨L,_,_,rfl,l0,l26,hes,fun H3 s3=>?_⟩
  and_intros
  exact q _ (s2.trans s3)
structure RoomIn (L h j:Nat) (lo hi:Option (List Nat)) (n:Nat):Prop where
  l0:0 < L
  l26:L ≤ 26
  h0:0 < h
  lo:OkO lo
  hi:OkO hi
  n:n ≤ 100000
theorem endsL_len {L h j:Nat} (hL:L ≤ 26):(endsL L h j).length ≤ 26:=by
  unfold endsL
  rw [List.length_map]
  exact Nat.le_trans (List.length_filter_le _ _) (by rw [List.length_range]; omega)
def spNth (c:Addr):Sp:=fun vs H Q E=>∃ (L h j:Nat) (lo hi:Option (List Nat)) (n k:Nat),vs = [.int L,.int h,.int j,oV lo,oV hi,.int n,.int k]∧RoomIn L h j lo hi n∧j < h∧h + 1 ≤ L∧
  (OkLH lo hi→∀ H',Same H H'→Q (.str (txt (mk L (nth L (endsL L h j) (ob L (endsL L h j) (valO L lo n + 1) + k)) n))) H')∧(¬ OkLH lo hi→E (.ref c) none H)
def rdNth (K:PySem.W.Frag) (c:Addr) (E:XK):TS:=
    tSeq (tDrop (tCall (spAskRoom c) [] E (tCons (tVar 3) (tCons (tVar 4) tNil))))
      (tSeq (tAsg (tCall spEnds [] E0 (tCons (tVar 0) (tCons (tVar 1) (tCons (tVar 2) tNil)))) (gName 7))
      (tSeq (tAsg (tCall spWhole [] E0 (tCons (tVar 0) (tCons (tVar 3) (tCons (tVar 5) tNil)))) (gName 8))
      (tSeq (tAsg (tOp rAddI (tCall spUpLow [] E0 (tCons (tVar 0) (tCons (tVar 7) (tCons (tVar 8) tNil)))) (tVar 6)) (gName 9))
      (tSeq (tAsg (tBM K "str" rIndex (tC (.str (txt ABC))) (tCons (tOp rIxStr (tVar 7) (tOp rModI (tVar 9) (tCB rLenS (tCons (tVar 7) tNil)))) tNil)) (gName 10))
      (tRet (tCall spMarkOf [] E0 (tCons (tVar 0) (tCons (tOp rAddI (tOp rMulI (tOp rDivI (tVar 9) (tCB rLenS (tCons (tVar 7) tNil))) (tVar 0)) (tVar 10)) (tCons (tVar 5) tNil)))))))))
theorem read_nth {K:PySem.W.Frag} {c:Addr} {N:List Str} {vs:List V} {H:Hp} {Q:VK} {E:XK} (hN:N.length = 11) (h:spNth c vs H Q E):rdNth K c E { nx:=fun _ H'=>Q .non H',rt:=Q } (L2.start N vs) H:=by
  obtain ⟨L,h,j,lo,hi,n,k,rfl,R,hj,hh,q1,q2⟩:=h
  unfold rdNth L2.start
  rw [hN]
  and_intros
  refine ⟨lo,hi,rfl,fun ok=>?_,q2⟩
  have q1:=q1 ok
  and_intros
  refine ⟨L,h,j,rfl,R.l26,R.h0,fun H1 s1=>?_⟩
  have EN:=ends_ok hj hh
  have hel:=endsL_len (h:=h) (j:=j) R.l26
  generalize endsL L h j = es at q1 EN hel ⊢
  refine ⟨L,lo,n,rfl,R.l26,R.lo,R.n,?_⟩
  refine ⟨L,_,_,rfl,R.l0,R.l26,hel,fun H2 s2=>?_⟩
  and_intros
  generalize ob L es (valO L lo n + 1) = p0 at q1 ⊢
  have hp:0 < es.length:=List.length_pos_iff.mpr EN.ne
  refine ⟨rfl,lenS_go (by omega) ⟨_,rfl,by omega,?_⟩⟩
  have e1:((p0:Int) + (k:Int)) % (es.length:Int) = (((p0 + k) % es.length:Nat):Int):=by rw [← Int.natCast_add]; exact (Int.natCast_emod _ _).symm
  have e2:((p0:Int) + (k:Int)) / (es.length:Int) = (((p0 + k) / es.length:Nat):Int):=by rw [← Int.natCast_add]; exact (Int.natCast_ediv _ _).symm
  have hm:=Nat.mod_lt (p0 + k) hp
  obtain ⟨c0,hc0⟩:=some_at hm
  have hcm:=List.mem_of_getElem? hc0
  have c1:=EN.lo c0 hcm
  have c2:=EN.hi c0 hcm
  have l26:=R.l26
  rw [e1]
  refine ixS_go (by omega) (by omega) (by rw [Int.toNat_natCast]; exact hc0) (idxABC_go (by omega) (by omega) ?_)
  and_intros
  refine lenS_go (by omega) ⟨_,rfl,cdiv (by omega) (by omega),mulB_r (by omega) (by omega),?_⟩
  rw [e2]
  refine ⟨L,nth L es (p0 + k),n,?_,R.l0,R.l26,R.n,q1 _ (s1.trans s2)⟩
  unfold nth
  rw [List.getD_eq_getElem?_getD,hc0,Int.natCast_add,Int.natCast_mul]
  rfl
structure MarksOk (L:Nat) (lo hi:Option (List Nat)):Prop where
  mlo:∀ m,lo = some m→Mark L m∧m.length ≤ 1000
  mhi:∀ m,hi = some m→Mark L m∧m.length ≤ 1000
def lenO:Option (List Nat)→Nat
  | none=>0
  | some l=>l.length
structure Hands (L h j:Nat):Prop where
  l2:2 ≤ L
  l26:L ≤ 26
  hj:j < h
  hh:h + 1 ≤ L
structure LeastB (b:Bool) (L:Nat) (es:List Nat) (lo hi:Option (List Nat)) (k n:Nat):Prop where
  pos:1 ≤ n
  len:n ≤ 1 + lenO lo + k ∨ n ≤ 1 + lenO hi + k
  room:(k:Int) ≤ roomB b L es lo hi n
  less:∀ m,1 ≤ m→m < n→roomB b L es lo hi m < k
theorem LeastB.one {b:Bool} {L:Nat} {es:List Nat} {lo hi:Option (List Nat)} {k n m:Nat} (A:LeastB b L es lo hi k n) (B:LeastB b L es lo hi k m):n = m:=by
  rcases Nat.lt_trichotomy n m with h | h | h
  · have:=B.less n A.pos h
    have:=A.room
    omega
  · exact h
  · have:=A.less m B.pos h
    have:=B.room
    omega
theorem MarksOk.okO {L:Nat} {lo hi:Option (List Nat)} (M:MarksOk L lo hi) (hL:L ≤ 26):OkO lo∧OkO hi:=by
  constructor
  · cases lo with
    | none=>trivial
    | some m=>exact ⟨(M.mlo m rfl).1.ls.mono hL,by have:=(M.mlo m rfl).2; omega⟩
  · cases hi with
    | none=>trivial
    | some m=>exact ⟨(M.mhi m rfl).1.ls.mono hL,by have:=(M.mhi m rfl).2; omega⟩
theorem MarksOk.roomIn {L h j n:Nat} {lo hi:Option (List Nat)} (M:MarksOk L lo hi) (D:Hands L h j) (hn:n ≤ 100000):RoomIn L h j lo hi n:=
  ⟨by have:=D.l2; omega,D.l26,by have:=D.hj; omega,(M.okO D.l26).1,(M.okO D.l26).2,hn⟩
theorem MarksOk.lens {L:Nat} {lo hi:Option (List Nat)} (M:MarksOk L lo hi):lenO lo ≤ 1000∧lenO hi ≤ 1000:=by
  constructor
  · cases lo with
    | none=>exact Nat.zero_le _
    | some m=>exact (M.mlo m rfl).2
  · cases hi with
    | none=>exact Nat.zero_le _
    | some m=>exact (M.mhi m rfl).2
theorem highO_succ (L:Nat) (o:Option (List Nat)) (n:Nat):highO L o (n + 1) = highO L o n * L + figO o n:=by
  cases o with
  | none=>show L ^ (n + 1) = L ^ n * L + 0; rw [Nat.pow_succ]; rfl
  | some l=>exact val_succ L l n
theorem figO_end {o:Option (List Nat)} {n:Nat} (h:lenO o ≤ n):figO o n = 0:=by
  cases o with
  | none=>rfl
  | some l=>show fig l n = 0; unfold fig; rw [List.getElem?_eq_none h]
theorem val_apart {L n:Nat} (hL:0 < L) {lo hi:Option (List Nat)} (M:MarksOk L lo hi) (ok:OkLH lo hi) (h1:lenO lo ≤ n) (h2:lenO hi ≤ n):valO L lo n < highO L hi n:=by
  cases lo with
  | none=>
    cases hi with
    | none=>exact Nat.pow_pos hL
    | some h=>exact val_pos hL n (M.mhi h rfl).1.ls (M.mhi h rfl).1.na (M.mhi h rfl).1.ne h2
  | some l=>
    cases hi with
    | none=>exact val_lt hL n (M.mlo l rfl).1.ls
    | some h=>exact (lt_val hL n (M.mlo l rfl).1.ls (M.mhi h rfl).1.ls (M.mlo l rfl).1.na (M.mhi h rfl).1.na h1 h2).mp (ok l h rfl rfl)
theorem val_wide {L n:Nat} (hL:2 ≤ L) {lo hi:Option (List Nat)} (M:MarksOk L lo hi) (ok:OkLH lo hi) (h1:lenO lo ≤ n) (h2:lenO hi ≤ n):∀ t,valO L lo (n + t) + (t + 1) ≤ highO L hi (n + t)
  | 0=>val_apart (by omega) M ok h1 h2
  | t + 1=>by
    have ih:=val_wide hL M ok h1 h2 t
    rw [show n + (t + 1) = n + t + 1 by omega,valO_succ,highO_succ,figO_end (by omega),figO_end (by omega),Nat.add_zero,Nat.add_zero]
    have:=Nat.mul_le_mul_right L ih
    rw [Nat.add_mul] at this
    have h3:(t + 1) * 2 ≤ (t + 1) * L:=Nat.mul_le_mul_left _ hL
    omega
theorem ob_blocks {L:Nat} {es:List Nat} (hL:0 < L) (E:MM.Ends L es) (v d:Nat):ob L es (v * L + 1) + d ≤ ob L es ((v + d) * L):=by
  have hp:0 < es.length:=List.length_pos_iff.mpr E.ne
  obtain ⟨e,he⟩:=List.exists_mem_of_ne_nil _ E.ne
  have h1:=E.lo e he
  have h2:=E.hi e he
  have m1:(v * L + 1) / L = v:=by rw [Nat.mul_comm,Nat.mul_add_div hL,Nat.div_eq_of_lt (by omega)]; rfl
  have m2:(v * L + 1) % L = 1:=by rw [Nat.mul_comm,Nat.mul_add_mod,Nat.mod_eq_of_lt (by omega)]
  unfold ob
  rw [m1,m2,Nat.mul_div_cancel _ hL,Nat.mul_mod_left,Nat.add_zero,cnt_low E.lo]
  have:MM.cnt es (97 + 1) = 0:=by
    unfold MM.cnt
    rw [List.length_eq_zero_iff,List.filter_eq_nil_iff]
    intro e he; have:=E.lo e he; simp only [decide_eq_true_eq]; omega
  rw [this,Nat.add_mul]
  have:=Nat.le_mul_of_pos_right d hp
  omega
theorem room_last {b:Bool} {L n k:Nat} {es:List Nat} (hL:2 ≤ L) (E:MM.Ends L es) {lo hi:Option (List Nat)} (M:MarksOk L lo hi) (ok:OkLH lo hi) (h1:lenO lo ≤ n) (h2:lenO hi ≤ n):(k:Int) ≤ roomB b L es lo hi (n + k + 1):=by
  have hv:=val_wide hL M ok h1 h2 k
  have hL0:0 < L:=by omega
  have ea:aheadB b hi (highO L hi (n + k + 1)) (n + k + 1) = highO L hi (n + k + 1):=by
    cases b with
    | false=>rfl
    | true=>
      cases hi with
      | none=>rfl
      | some h=>
        show (if n + k + 1 < h.length then _ else _) = _
        have h2:h.length ≤ n:=h2
        rw [if_neg (by omega)]
  unfold roomB
  rw [ea,highO_succ,valO_succ,figO_end (by omega),figO_end (by omega),Nat.add_zero,Nat.add_zero]
  have b:=ob_blocks hL0 E (valO L lo (n + k)) k
  have m:=ob_mono hL0 E (Nat.mul_le_mul_right L (show valO L lo (n + k) + k ≤ highO L hi (n + k) by omega))
  omega
theorem room_last1 {b:Bool} {L n:Nat} {es:List Nat} (hL:2 ≤ L) (E:MM.Ends L es) {lo hi:Option (List Nat)} (M:MarksOk L lo hi) (ok:OkLH lo hi) (h1:lenO lo ≤ n) (h2:lenO hi ≤ n):0 < roomB b L es lo hi (n + 1):=by
  have hv:=val_apart (by omega) M ok h1 h2
  have hL0:0 < L:=by omega
  have ea:aheadB b hi (highO L hi (n + 1)) (n + 1) = highO L hi (n + 1):=by
    cases b with
    | false=>rfl
    | true=>
      cases hi with
      | none=>rfl
      | some h=>
        show (if n + 1 < h.length then _ else _) = _
        have h2:h.length ≤ n:=h2
        rw [if_neg (by omega)]
  unfold roomB
  rw [ea,highO_succ,valO_succ,figO_end h1,figO_end h2,Nat.add_zero,Nat.add_zero]
  have b:=ob_blocks hL0 E (valO L lo n) 1
  have m:=ob_mono hL0 E (Nat.mul_le_mul_right L (show valO L lo n + 1 ≤ highO L hi n by omega))
  omega
theorem LeastB.len1 {b:Bool} {L n:Nat} {es:List Nat} {lo hi:Option (List Nat)} (A:LeastB b L es lo hi 1 n) (hL:2 ≤ L) (E:MM.Ends L es) (M:MarksOk L lo hi) (ok:OkLH lo hi):n ≤ 1 + max (lenO lo) (lenO hi):=by
  rcases Nat.lt_or_ge (1 + max (lenO lo) (lenO hi)) n with z | z
  · have r:=room_last1 (b:=b) hL E M ok (n:=max (lenO lo) (lenO hi)) (Nat.le_max_left _ _) (Nat.le_max_right _ _)
    have:=A.less (max (lenO lo) (lenO hi) + 1) (by omega) (by omega)
    omega
  · exact z
def spLeastC:Sp:=fun vs H Q _=>∃ (L:Nat) (es:List Nat) (lo hi:Option (List Nat)) (k:Nat) (b:Bool),vs = [.int L,.str (txt es),oV lo,oV hi,.int k,.bl b]∧2 ≤ L∧L ≤ 26∧es.length ≤ 26∧MM.Ends L es∧MarksOk L lo hi∧OkLH lo hi∧1 ≤ k∧k ≤ 10000∧∀ H' n,Same H H'→LeastB b L es lo hi k n→Q (.int n) H'
def rdLeastC:TS:=
    tSeq (tAsg (tC (.int 0)) (gName 6))
      (tSeq (tAsg (tC (.int 0)) (gName 7))
      (tSeq (tAsg (tC (.int 0)) (gName 8))
      (tSeq (tAsg (tCall spHigh [] E0 (tCons (tVar 0) (tCons (tVar 3) (tCons (tC (.int 0)) tNil)))) (gName 9))
      (tSeq (tWhile (tTest (tOp rLtI (tVar 7) (tVar 4))) (tSeq (tAsg (tOp rAddI (tOp rMulI (tVar 8) (tVar 0)) (tCall spFig [] E0 (tCons (tVar 2) (tCons (tVar 6) tNil)))) (gName 8))
      (tSeq (tAsg (tOp rAddI (tOp rMulI (tVar 9) (tVar 0)) (tCall spFig [] E0 (tCons (tVar 3) (tCons (tVar 6) tNil)))) (gName 9))
      (tSeq (tAsg (tOp rAddI (tVar 6) (tC (.int 1))) (gName 6))
      (tSeq (tAsg (tCall spAhead [] E0 (tCons (tVar 0) (tCons (tVar 1) (tCons (tVar 3) (tCons (tVar 9) (tCons (tVar 6) (tCons (tVar 5) tNil))))))) (gName 10))
      (tAsg (tOp rSubI (tVar 10) (tCall spUpLow [] E0 (tCons (tVar 0) (tCons (tVar 1) (tCons (tVar 8) tNil))))) (gName 7)))))))
      (tRet (tVar 6))))))
theorem read_leastC {N:List Str} {vs:List V} {H:Hp} {Q:VK} {E:XK} (hN:N.length = 11) (h:spLeastC vs H Q E):rdLeastC { nx:=fun _ H'=>Q .non H',rt:=Q } (L2.start N vs) H:=by
  obtain ⟨L,es,lo,hi,k,b,rfl,hl2,hl26,hel,EN,M,ok,hk1,hk2,q1⟩:=h
  unfold rdLeastC L2.start
  rw [hN]
  have hL0:0 < L:=by omega
  obtain ⟨okl,okh⟩:=M.okO hl26
  have hlen:=M.lens
  and_intros
  refine ⟨L,hi,0,rfl,hl26,okh,by omega,?_⟩
  have rl:=room_last (b:=b) (n:=max (lenO lo) (lenO hi)) (k:=k) hl2 EN M ok (Nat.le_max_left _ _) (Nat.le_max_right _ _)
  have mx:max (lenO lo) (lenO hi) = lenO lo ∨ max (lenO lo) (lenO hi) = lenO hi:=by omega
  generalize max (lenO lo) (lenO hi) = N1 at rl mx
  obtain ⟨N0,hN0⟩:∃ N0,N0 = N1 + k:=⟨_,rfl⟩
  rw [← hN0] at rl
  refine while_of (fun m σ H'=>∃ (n:Nat) (r:Int) (v10:Option V),Same H H'∧σ = [some (.int L),some (.str (txt es)),some (oV lo),some (oV hi),some (.int k),some (.bl b),some (.int n),some (.int r),some (.int (valO L lo n:Nat)),some (.int (highO L hi n:Nat)),v10]∧n ≤ N0 + 1∧m = N0 + 1 - n∧((n = 0∧r = 0) ∨ (1 ≤ n∧r = roomB b L es lo hi n))∧∀ m',1 ≤ m'→m' < n→roomB b L es lo hi m' < k) (N0 + 1)
    ⟨0,0,none,Same.refl _,by rw [valO_zero]; rfl,by omega,by omega,.inl ⟨rfl,rfl⟩,fun m' h1 h2=>by omega⟩ ?_
  rintro m σ H2 ⟨n,r,v10,s2,rfl,hn,hm,hr,hp⟩ R hgo hstop
  and_intros
  by_cases hr1:r < k
  · rw [decide_eq_true hr1]
    refine hgo H2 ?_
    have hnN:n ≤ N0:=by
      by_cases z:n = N0 + 1
      · subst z
        rcases hr with ⟨z,_⟩ | ⟨_,z⟩
        · omega
        · omega
      · omega
    and_intros
    refine ⟨mulB_r (by omega) (by omega),lo,n,rfl,okl,?_⟩
    and_intros
    refine ⟨mulB_r (by omega) (by omega),hi,n,rfl,okh,?_⟩
    and_intros
    have e1:((valO L lo n:Nat):Int) * (L:Int) + (figO lo n:Nat) = (valO L lo (n + 1):Nat):=by rw [valO_succ,Int.natCast_add,Int.natCast_mul]
    have e2:((highO L hi n:Nat):Int) * (L:Int) + (figO hi n:Nat) = (highO L hi (n + 1):Nat):=by rw [highO_succ,Int.natCast_add,Int.natCast_mul]
    have e3:(n:Int) + 1 = ((n + 1:Nat):Int):=rfl
    rw [e1,e2,e3]
    refine ⟨L,es,hi,_,n + 1,b,rfl,hL0,hl26,hel,okh,fun H3 s3=>?_⟩
    refine ⟨L,es,_,rfl,hL0,hl26,hel,fun H4 s4=>?_⟩
    and_intros
    refine ⟨N0 + 1 - (n + 1),by omega,(s2.trans s3).trans s4,n + 1,roomB b L es lo hi (n + 1),_,rfl,by omega,rfl,.inr ⟨by omega,rfl⟩,fun m' h1 h2=>?_⟩
    by_cases z:m' = n
    · subst z
      rcases hr with ⟨z,_⟩ | ⟨_,z⟩
      · omega
      · omega
    · exact hp m' h1 (by omega)
  · rw [decide_eq_false hr1]
    refine hstop H2 ?_
    and_intros
    rcases hr with ⟨z,z2⟩ | ⟨z,rfl⟩
    · omega
    · exact q1 _ n s2 ⟨z,by omega,by omega,hp⟩
theorem own_iff {L h j:Nat} (hL:0 < L) (w:Nat):ow L (endsL L h j) w = true ↔ 0 < w % L∧(w % L - 1) % h = j:=by
  unfold ow
  rw [decide_eq_true_iff,endsL_mem]
  have:=Nat.mod_lt w hL
  constructor
  · rintro ⟨i,h1,h2,h3⟩
    have:w % L = i + 1:=by omega
    rw [this]
    exact ⟨by omega,h2⟩
  · rintro ⟨h1,h2⟩
    exact ⟨w % L - 1,by omega,h2,by omega⟩
theorem low_iff {L w n:Nat} (hL:0 < L) (hw:w < L ^ (n + 1)) (h0:w % L ≠ 0) {l:List Nat} (hl:Ls L l):l < low L w (n + 1) ↔ val L l (n + 1) + 1 ≤ w:=by
  rw [low_val hL (n + 1) hl (low_ls hL _ _) (fun c hc=>by rw [low_last hL] at hc; have:=Option.some.inj hc; omega) (low_length _ _ _),low_val_eq hL,Nat.mod_eq_of_lt hw]
  omega
theorem ahead_le {L:Nat} (n:Nat) (hL:0 < L) {lo hi:Option (List Nat)} (M:MarksOk L lo hi):aheadN hi (highO L hi n) n ≤ L ^ n:=by
  cases hi with
  | none=>exact Nat.le_refl _
  | some h=>
    have v:=val_lt hL n (M.mhi h rfl).1.ls
    show (if n < h.length then val L h n + 1 else val L h n) ≤ L ^ n
    split <;> omega
def Prs (H:Hp):List V→List (V × V)→Prop
  | [],[]=>True
  | x :: xs,p :: ps=>(∃ t,x = .ref t∧H t = some (.tup [p.1,p.2]))∧Prs H xs ps
  | _,_=>False
theorem Prs.keep {H H':Hp} (k:∀ t ys,H t = some (.tup ys)→H' t = some (.tup ys)):∀ {xs:List V} {ps:List (V × V)},Prs H xs ps→Prs H' xs ps
  | [],[],_=>trivial
  | [],_ :: _,h=>h.elim
  | _ :: _,[],h=>h.elim
  | _ :: _,_ :: _,⟨⟨t,e,h⟩,r⟩=>⟨⟨t,e,k t _ h⟩,Prs.keep k r⟩
theorem Prs.same {H H':Hp} {xs:List V} {ps:List (V × V)} (h:Prs H xs ps) (s:Same H H'):Prs H' xs ps:=h.keep fun t ys e=>s t _ e
theorem Prs.app {H:Hp}:∀ {xs:List V} {ps:List (V × V)} {ys:List V} {qs:List (V × V)},Prs H xs ps→Prs H ys qs→Prs H (xs ++ ys) (ps ++ qs)
  | [],[],_,_,_,h=>h
  | [],_ :: _,_,_,h,_=>h.elim
  | _ :: _,[],_,_,h,_=>h.elim
  | _ :: _,_ :: _,_,_,⟨a,r⟩,h=>⟨a,Prs.app r h⟩
theorem Prs.len {H:Hp}:∀ {xs:List V} {ps:List (V × V)},Prs H xs ps→xs.length = ps.length
  | [],[],_=>rfl
  | [],_ :: _,h=>h.elim
  | _ :: _,[],h=>h.elim
  | _ :: _,_ :: _,⟨_,r⟩=>by rw [List.length_cons,List.length_cons,Prs.len r]
theorem Prs.get {H:Hp}:∀ {xs:List V} {ps:List (V × V)} {i:Nat} {x:V},Prs H xs ps→xs[i]? = some x→∃ p t,ps[i]? = some p∧x = .ref t∧H t = some (.tup [p.1,p.2])
  | [],_,_,_,_,e=>by simp at e
  | _ :: _,[],_,_,h,_=>h.elim
  | _ :: _,p :: _,0,_,⟨⟨t,e1,h⟩,_⟩,e=>by
    have:_ = _:=Option.some.inj e
    subst this
    exact ⟨p,t,rfl,e1,h⟩
  | _ :: _,_ :: _,i + 1,_,⟨_,r⟩,e=>by
    obtain ⟨p,t,a,b,c⟩:=Prs.get r (i:=i) (by simpa using e)
    exact ⟨p,t,by simpa using a,b,c⟩
def flatD:V→PyData
  | .bl b=>.bool b
  | .int i=>.int i
  | .str x=>.str x
  | _=>.none
inductive OkV:V→Prop where
  | non:OkV .non
  | bl (b:Bool):OkV (.bl b)
  | str {l:List Nat} (h:PyData.strOk (txt l) = true):OkV (.str (txt l))
theorem OkV.dat {K:PySem.W.Frag} {H:Hp} {v:V} (h:OkV v):Dat K H v (flatD v):=by
  cases h with
  | non=>exact .non
  | bl b=>exact .bl b
  | str h=>exact .str _
def pairD (ps:List (V × V)):List PyData:=ps.map fun p=>.tuple [flatD p.1,flatD p.2]
theorem Prs.dat {K:PySem.W.Frag} {H:Hp}:∀ {xs:List V} {ps:List (V × V)},Prs H xs ps→(∀ p ∈ ps,OkV p.1∧OkV p.2)→DatAll K H xs (pairD ps)
  | [],[],_,_=>.nil
  | [],_ :: _,h,_=>h.elim
  | _ :: _,[],h,_=>h.elim
  | _ :: _,p :: _,⟨⟨t,e,h⟩,r⟩,ok=>by
    subst e
    have o:=ok p List.mem_cons_self
    exact .cons (.tup (SqT.of h) (.cons o.1.dat (.cons o.2.dat .nil))) (Prs.dat r fun q hq=>ok q (List.mem_cons_of_mem _ hq))
theorem lay_flat {v:V} (h:OkV v):PyData.canLay0 (flatD v) = true∧PyData.depth (flatD v) = 0:=by
  cases h with
  | non=>exact ⟨by simp [flatD,PyData.canLay0],by simp [flatD,PyData.depth]⟩
  | bl b=>exact ⟨by simp [flatD,PyData.canLay0],by simp [flatD,PyData.depth]⟩
  | str h=>exact ⟨by simp [flatD,PyData.canLay0,h],by simp [flatD,PyData.depth]⟩
theorem lay_pairs:∀ {ps:List (V × V)},(∀ p ∈ ps,OkV p.1∧OkV p.2)→PyData.canLayAll0 (pairD ps) = true∧PyData.depthAll (pairD ps) ≤ 1
  | [],_=>⟨by simp [pairD,PyData.canLayAll0],by simp [pairD,PyData.depthAll]⟩
  | p :: ps,ok=>by
    obtain ⟨a,b⟩:=lay_pairs fun q hq=>ok q (List.mem_cons_of_mem _ hq)
    obtain ⟨o1,o2⟩:=ok p List.mem_cons_self
    obtain ⟨c1,d1⟩:=lay_flat o1
    obtain ⟨c2,d2⟩:=lay_flat o2
    have e:pairD (p :: ps) = .tuple [flatD p.1,flatD p.2] :: pairD ps:=rfl
    rw [e]
    refine ⟨by simp [PyData.canLayAll0,PyData.canLay0,c1,c2,a],?_⟩
    simp only [PyData.depthAll,PyData.depth,d1,d2]
    omega
def stand (ks:List (List Nat × Bool)):Nat:=(ks.filter fun k=>k.2).length
theorem keep_list {H:Hp} {t r:Addr} {o:HO} {ys zs:List V} (ht:H t = none) (hr:H r = some (.lst ys)):∀ u xs,H u = some (.tup xs)→(upd (upd H t o) r (.lst zs)) u = some (.tup xs):=fun u xs e=>by
  rw [upd_ne (fun z=>by subst z; rw [hr] at e; cases e),upd_ne (fun z=>by subst z; rw [ht] at e; cases e)]
  exact e
theorem drop_get {α:Type} {l:List α} {i:Nat} {x:α} (h:l[i]? = some x):l.drop i = x :: l.drop (i + 1):=by
  obtain ⟨h1,h2⟩:=List.getElem?_eq_some_iff.mp h
  rw [List.drop_eq_getElem_cons h1,h2]
def spText:Sp:=fun vs H Q _=>∃ (L r n:Nat),vs = [.int L,.int r,.int n]∧0 < L∧L ≤ 26∧n ≤ 100000∧Q (.str (txt (mk L r n))) H
def rdText (K:PySem.W.Frag):TS:=
    tSeq (tAsg (tC (.str (txt []))) (gName 3))
      (tSeq (tFor (iRng1 (tCons (tVar 2) tNil)) (gName 4) (tSeq (tAsg (tOp rAddS (tOp rIxStr (tC (.str (txt ABC))) (tOp rModI (tVar 1) (tVar 0))) (tVar 3)) (gName 3))
      (tAsg (tOp rDivI (tVar 1) (tVar 0)) (gName 1))))
      (tRet (tBM K "str" rRstrip (tVar 3) (tCons (tC (.str (txt [97]))) tNil))))
theorem read_text {K:PySem.W.Frag} {N:List Str} {vs:List V} {H:Hp} {Q:VK} {E:XK} (hN:N.length = 5) (h:spText vs H Q E):rdText K { nx:=fun _ H'=>Q .non H',rt:=Q } (L2.start N vs) H:=by
  obtain ⟨L,r,n,rfl,hL0,hL,hn,q⟩:=h
  unfold rdText L2.start
  rw [hN]
  and_intros
  refine for_r1 (j:=n) (fun Q h=>⟨_,rfl,h⟩) (by omega) (by omega) (fun i σ H'=>H' = H∧∃ v4,σ = [some (.int L),some (.int (r / L ^ i:Nat)),some (.int n),some (.str (txt (low L r i))),v4]) ⟨rfl,_,by rw [Nat.pow_zero,Nat.div_one]; rfl⟩ ?_ ?_
  · rintro i σ H1 hi ⟨rfl,v4,rfl⟩
    have e1:((r / L ^ i:Nat):Int) % (L:Int) = ((r / L ^ i % L:Nat):Int):=(Int.natCast_emod _ _).symm
    have e2:((r / L ^ i:Nat):Int) / (L:Int) = ((r / L ^ (i + 1):Nat):Int):=by rw [Nat.pow_succ,← Nat.div_div_eq_div_mul]; exact (Int.natCast_ediv _ _).symm
    have hb:=Nat.mod_lt (r / L ^ i) hL0
    and_intros
    rw [e1,e2]
    refine ⟨by omega,ixABC_go (by omega) (by omega) (addS_go (by rw [low_length]; simp only [List.length_cons,List.length_nil]; omega) ⟨cdiv (by omega) (by omega),?_⟩)⟩
    exact ⟨rfl,some (.int i),by rw [Int.toNat_natCast]; rfl⟩
  · rintro σ H1 ⟨rfl,v4,rfl⟩
    and_intros
    rw [Int.toNat_natCast]
    exact ⟨rfl,rstrip_go (by rw [low_length]; exact hn) q⟩
theorem inV_strs (x:List Nat) (xs:List (List Nat)):inV (.str (txt x)) (xs.map strV) = decide (x ∈ xs):=by
  unfold inV
  rw [List.any_map,Bool.eq_iff_iff,List.any_eq_true,decide_eq_true_eq]
  constructor
  · rintro ⟨y,hy,e⟩
    have:y = x:=by simpa [eqV,strV,txt_inj] using e
    rw [← this]; exact hy
  · intro h
    exact ⟨x,h,by simp [eqV,strV]⟩
theorem flat_strs (xs:List (List Nat)):(xs.map strV).all flatV = true:=by
  rw [List.all_map,List.all_eq_true]
  intro x _
  rfl
theorem lt_of_sorted {zs:List (List Nat)} (h:zs.Pairwise (· ≤ ·)) (n:zs.Nodup):zs.Pairwise (· < ·):=by
  have:=List.Pairwise.and h n
  refine this.imp fun {a b} hab=>?_
  by_cases z:a < b
  · exact z
  · exact absurd (List.le_antisymm hab.1 (List.not_lt.mp z)) hab.2
def Keeps (F:List Addr) (H H':Hp):Prop:=∀ b o,H b = some o→b ∉ F→H' b = some o
theorem Same.keeps {H H':Hp} (s:Same H H') (F:List Addr):Keeps F H H':=fun b o e _=>s b o e
theorem Keeps.trans {F:List Addr} {H H1 H2:Hp} (a:Keeps F H H1) (b:Keeps F H1 H2):Keeps F H H2:=fun x o e n=>b x o (a x o e n) n
theorem Keeps.upd {F:List Addr} {H H':Hp} {p:Addr} {o:HO} (a:Keeps F H H') (h:p ∈ F ∨ H' p = none):Keeps F H (upd H' p o):=fun x q e n=>by
  have:=a x q e n
  rw [upd_ne (fun z => by subst z; rcases h with h | h
                          · exact n h
                          · rw [this] at h; cases h)]
  exact this
def SIGNS:List Nat:=[97,98,99,100,101,102,103,104,105,106,107,108,109,110,111,112,113,114,115,116,117,118,119,120,121,122,48,49,50,51,52,53,54,55,56,57]
def Thing (t:List Nat):Prop:=t ≠ []∧t.length ≤ 12∧∀ c ∈ t,c ∈ SIGNS
end L2
namespace L2
open PySem PySem.Spec PyProof.Rows SetTx
section
variable {X:Cx}
theorem Inv.drawnTo {pins:List (Addr × Obj)} {σ:List (Option V)} {H:Hp} {s:Shared} {d':Drawn} (I:Inv X pins σ H s):Inv X pins σ H { s with drawn:=d' }:={ I with }
def setO (P:Program) (w:World) (a:Addr) (ss:List Str):HO:=.ext fun h=>SetT P w h a ss (!byText w)
abbrev rSetX (X:Cx):List V→Hp→VK→Prop:=fun xs H Q=>∃ p,∃ ys:List (List Nat),xs = [.ref p]∧SqL X.K H p (ys.map strV)∧ys.length < 64∧∀ a ss,H a = none→ss.Nodup→(∀ y:List Nat,txt y ∈ ss ↔ y ∈ ys)→ss.length < 64→Q (.ref a) (upd H a (setO X.prog X.w a ss))
abbrev rSortX (X:Cx):List V→Hp→VK→Prop:=fun xs H Q=>∃ a ss,xs = [.ref a]∧H a = some (setO X.prog X.w a ss)∧ss.length < 64∧∀ l,∀ zs:List (List Nat),H l = none→(zs.map txt).Perm ss→zs.Pairwise (· ≤ ·)→Q (.ref l) (upd H l (.lst (zs.map strV)))
theorem call_sortX (hc:X.calm = true):CallR X (.builtin "sorted") (rSortX X):=by
  intro pins s σ H xs us Q I r h
  obtain ⟨a,ss,rfl,hH,hz,q⟩:=h
  obtain ⟨u,rfl,ru⟩:=vals1 r
  cases ru
  have hS:SetT X.prog X.w s.heap a ss (!byText X.w):=(show ObjOk X.prog X.w H s.heap a (setO X.prog X.w a ss) from I.hok a _ hH).1
  refine sorted_set (I.ok.hd hc) hS hz fun h1 h' tk d' e out ss' k1 k2 he a1 a2 a3=>?_
  have ez:ss' = (ss'.map fun x=>x.cps.toList).map txt:=by
    rw [List.map_map]
    have:(txt ∘ fun (x:Str)=>x.cps.toList) = id:=by funext x; exact txt_codes x
    rw [this,List.map_id]
  have hp:((ss'.map fun x=>x.cps.toList).map txt).Perm ss:=by rw [← ez]; exact a2
  rw [ez] at a3
  have hv:Vals ((ss'.map fun x=>x.cps.toList).map strV) out.toList:=by rw [map_strV,← ez]; exact vals_strs a1
  have I1:Inv X pins σ H { s with heap:=h1,toks:=s.toks }:=I.kept (t':=s.toks) k1
  refine ⟨.ref h1.objs.size,_,(I1.laid (t':=tk) (a:=h1.objs.size) (o:=.lst ((ss'.map fun x=>x.cps.toList).map strV)) k2 (Nat.le_refl _) ⟨?_,out.toList,e,hv,by simpa [seqObj] using he⟩).drawnTo,rfl,q _ _ (I1.hok.fresh (Nat.le_refl _)) hp (sortedS_pw _ a3)⟩
  have:=a2.length_eq
  rw [List.length_map,List.length_map,sizeLine_eq]
  omega
theorem strs_at:∀ {us:List Value} {ss:List Str},StrsAre us ss→∀ (i:Nat) (v:Value),us[i]? = some v→∃ t,v = .str (ss.getD i "") t
  | _,_,.nil,i,v,e=>by simp at e
  | _,_,.cons y t h,0,v,e=>by
    simp at e
    exact ⟨t,e.symm⟩
  | _,_,.cons y t h,i + 1,v,e=>by
    simp only [List.getElem?_cons_succ] at e
    exact strs_at h i v e
theorem txt_inj2 {a b:List Nat} (h:txt a = txt b):a = b:=by
  have:=congrArg (fun x:Str=>x.cps.toList) h
  simpa [codes_txt] using this
theorem call_setX (hc:X.calm = true):CallR X (.type "set") (rSetX X):=by
  intro pins s σ H xs us Q I r h
  obtain ⟨p,ys,rfl,hx,hz,q⟩:=h
  obtain ⟨u,rfl,ru⟩:=vals1 r
  cases ru
  obtain ⟨its,rv,pl,hl⟩:=I.list hx
  have hlen:=rv.length
  rw [map_strV] at rv
  have st:=strsAre_of rv
  have il:its.length = ys.length:=by rw [← hlen,List.length_map]
  refine call_set_texts (val:=fun i=>(ys.map txt).getD i "") (I.ok.hd hc) pl.isList (fun i v e=>strs_at st i v (by simpa using e)) (by unfold scanBound; simp; omega) fun h' tk hS hk=>?_
  have sz:its.toArray.size = ys.length:=by simp [il]
  rw [sz] at hS
  refine ⟨.ref s.heap.objs.size,_,I.laid (t':=tk) (a:=s.heap.objs.size) (o:=setO X.prog X.w s.heap.objs.size _) (fun b o e=>hk b o (Heap.lt_size e) e) (Nat.le_refl _) ⟨hS,?_,fun h1 h2 x k=>x.keep k⟩,rfl,q _ _ (I.hok.fresh (Nat.le_refl _)) (dedN_nodup _ _) (fun y=>?_) ?_⟩
  · obtain ⟨o,es,ep,t,ho,_⟩:=hS
    exact ⟨o,ho⟩
  · rw [dedN_mem]
    constructor
    · rintro ⟨j,hj,e⟩
      rw [List.getD_eq_getElem?_getD,List.getElem?_map,List.getElem?_eq_getElem hj] at e
      have e2:ys[j] = y:=txt_inj2 e
      rw [← e2]
      exact List.getElem_mem hj
    · intro hy
      obtain ⟨j,hj,e⟩:=List.getElem_of_mem hy
      exact ⟨j,hj,by rw [List.getD_eq_getElem?_getD,List.getElem?_map,List.getElem?_eq_getElem hj,e]; rfl⟩
  · have:=dedN_len (fun i=>(ys.map txt).getD i "") ys.length
    omega
abbrev rSortSet (K:PySem.W.Frag):List V→Hp→VK→Prop:=fun xs H Q=>∃ p,∃ ys:List (List Nat),xs = [.ref p]∧SqL K H p (ys.map strV)∧ys.length < 64∧∀ H' l,∀ zs:List (List Nat),Same H H'→H l = none→H' l = some (.lst (zs.map strV))→zs.Nodup→(∀ y,y ∈ zs ↔ y ∈ ys)→zs.Pairwise (· ≤ ·)→Q (.ref l) H'
theorem set_then {xs:List V} {H:Hp} {Q:VK} {Q1:VK} (h:rSortSet X.K xs H Q) (h1:∀ v H2,rSortX X [v] H2 Q→Q1 v H2):rSetX X xs H Q1:=by
  obtain ⟨p,ys,rfl,hx,hz,q⟩:=h
  refine ⟨p,ys,rfl,hx,hz,fun a ss ha nd mem hl=>h1 _ _ ⟨a,ss,rfl,upd_same,hl,fun l zs hl' hp hs=>?_⟩⟩
  have s1:=Same.up H ha (o:=setO X.prog X.w a ss)
  refine q _ l zs (s1.new hl') (by cases e:H l with | none=>rfl | some o=>rw [s1 _ _ e] at hl'; cases hl') upd_same ?_ (fun y=>?_) hs
  · have:=hp.nodup_iff.mpr nd
    exact (List.pairwise_map.mp this).imp fun h e=>h (by rw [e])
  · rw [← mem y,← hp.mem_iff,List.mem_map]
    constructor
    · intro h; exact ⟨y,h,rfl⟩
    · rintro ⟨z,hz,e⟩
      rw [← txt_inj2 e]; exact hz
theorem call_setC (hc:X.calm = true) (Q:VK):CallR X (.type "set") (fun xs H Q1=>rSortSet X.K xs H Q∧∀ v H2,rSortX X [v] H2 Q→Q1 v H2):=fun pins s σ H xs us Q1 I r h=>call_setX hc pins s σ H xs us Q1 I r (set_then h.1 h.2)
theorem pe_sortSet {e : Expr} {te : TE} {p p2 pos pos2 : Pos} (hc : X.calm = true) (hg : Gl X "sorted") (hm : X.mg "sorted" = none) (hg2 : Gl X "set") (hm2 : X.mg "set" = none) (ha : PA X [e] (tCons te tNil)) (hv : bootBuiltins "sorted" = some (.builtin "sorted")) (hv2 : bootBuiltins "set" = some (.type "set"))
    (hs:starEach [e] X.env = (false,eval e X.env) :: starEach [] X.env:=by rfl) (hpl:(backTo pos2 (starEach [] X.env)).any (·.1) = false:=by rfl)
    (hs2 : starEach [.Call (.Name "set" p2) [e] [] pos2] X.env = (false, eval (.Call (.Name "set" p2) [e] [] pos2) X.env) :: starEach [] X.env := by rfl) (hpl2 : (backTo pos (starEach [] X.env)).any (·.1) = false := by rfl) :
    PE X (.Call (.Name "sorted" p) [.Call (.Name "set" p2) [e] [] pos2] [] pos) (tCB (rSortSet X.K) (tCons te tNil)):=by
  intro pins s σ H Q I h
  have inner:=pe_callTy (p:=p2) (pos:=pos2) (call_setC hc Q) hg2 hm2 hv2 ha (by decide) (by decide) hs hpl
  have outer:=pe_callB (p:=p) (pos:=pos) (call_sortX hc) hg hm hv (pa_cons inner pa_nil hs2) (by decide) (by decide) hs2 hpl2
  refine outer pins s σ H Q I ?_
  show te σ H fun x H1=>rSortSet X.K [x] H1 Q∧∀ v H2,rSortX X [v] H2 Q→rSortX X [v] H2 Q
  have e1:(fun (x:V) (H1:Hp)=>rSortSet X.K [x] H1 Q∧∀ v H2,rSortX X [v] H2 Q→rSortX X [v] H2 Q) = fun x H1=>rSortSet X.K [x] H1 Q:=by
    funext x H1
    exact propext ⟨fun z=>z.1,fun z=>⟨z,fun _ _ y=>y⟩⟩
  rw [e1]
  exact h
theorem ke_sortSet (hc : X.calm = true) {e : Expr} {te : TE} {p p2 pos pos2 : Pos} (hm : X.mg "sorted" = none) (hm2 : X.mg "set" = none) (ha : QA X [e] (tCons te tNil)) (hv : bootBuiltins "sorted" = some (.builtin "sorted")) (hv2 : bootBuiltins "set" = some (.type "set"))
    (hg : X.env.kindOf "sorted" = some .globalImplicit := by kernel_rfl) (hg2 : X.env.kindOf "set" = some .globalImplicit := by kernel_rfl)
    (hs:starEach [e] X.env = (false,eval e X.env) :: starEach [] X.env:=by kernel_rfl) (hpl:(backTo pos2 (starEach [] X.env)).any (·.1) = false:=by kernel_rfl)
    (hs2 : starEach [.Call (.Name "set" p2) [e] [] pos2] X.env = (false, eval (.Call (.Name "set" p2) [e] [] pos2) X.env) :: starEach [] X.env := by kernel_rfl) (hpl2 : (backTo pos (starEach [] X.env)).any (·.1) = false := by kernel_rfl) :
    QE X (.Call (.Name "sorted" p) [.Call (.Name "set" p2) [e] [] pos2] [] pos) (tCB (rSortSet X.K) (tCons te tNil)):=⟨pe_sortSet hc hg hm hg2 hm2 ha.p hv hv2 hs hpl hs2 hpl2⟩
end
section
variable {X:Cx}
theorem ke_dget2 {o e f:Expr} {td ty tx:TE} {apos cpos:Pos} (hu:X.A.units + 64 < cLine) (ho:QE X o td) (he:QE X e ty) (hf:QE X f tx)
    (h1:attributeBase o "get" X.env (eval o X.env) = eval o X.env:=by kernel_rfl)
    (h2:((backTo cpos (starEach [e,f] X.env)).all (fun x=>!x.1) && (backToKw cpos (keywordEach [] X.env)).all (fun x=>x.1.isSome) && decide (([e,f]:List Expr).length + ([]:List Keyword).length + (if ([]:List Keyword).isEmpty then 0 else 1) < 30)) = true:=by kernel_rfl)
    (h3:(apos.endLine == cpos.line) = true:=by kernel_rfl) (h4:backTo cpos (starEach [e,f] X.env) = [(false,eval e X.env),(false,eval f X.env)]:=by kernel_rfl) :
    QE X (.Call (.Attribute o "get" apos) [e,f] [] cpos) (tDGet2 td ty tx):=⟨pe_dget2 (by omega) ho.p he.p hf.p ⟨h1,h2,h3,h4⟩⟩
end
end L2
namespace L2
open PySem PySem.Spec PyProof.Rows MM
theorem cutV_to {xs:List V} {i:Nat} (h:i ≤ xs.length):cutV xs none (some (i:Int)) = xs.take i:=by
  unfold cutV
  rw [HT.sIx_nat,HT.sIx_none,List.drop_zero,Nat.sub_zero,Nat.min_eq_left h]
theorem cutV_from {xs:List V} {i:Nat} (h:i ≤ xs.length):cutV xs (some (i:Int)) none = xs.drop i:=by
  unfold cutV
  rw [HT.sIx_nat,HT.sIx_none,Nat.min_eq_left h,List.take_of_length_le]
  rw [List.length_drop]
  exact Nat.le_refl _
theorem seqIx {i:Int} {n:Nat} (h0:0 ≤ i) (h1:i < n):seqIndex? i n = some i.toNat:=by
  unfold seqIndex?
  simp only [if_neg (show ¬ i < 0 by omega)]
  rw [if_pos (by simp; omega)]
theorem hand1 {L:Nat} (h2:2 ≤ L) (h26:L ≤ 26):Hands L 1 0:=⟨h2,h26,by decide,by omega⟩
abbrev loN (L:Nat) (lo:Option (List Nat)) (n:Nat):Nat:=valO L lo n + 1
abbrev hiN (L:Nat) (hi:Option (List Nat)) (n:Nat):Nat:=aheadN hi (highO L hi n) n
theorem own_all {L w:Nat} (hL:0 < L):ow L (endsL L 1 0) w = true ↔ w % L ≠ 0:=by
  rw [own_iff hL]
  constructor
  · intro h; omega
  · intro h; exact ⟨by omega,Nat.mod_one _⟩
theorem figO_lt {L:Nat} (hL:0 < L) {o:Option (List Nat)} {n:Nat} (h:∀ m,o = some m→Ls L m):figO o n < L:=by
  cases o with
  | none=>exact hL
  | some m=>
    show fig m n < L
    unfold fig
    cases e:m[n]? with
    | none=>exact hL
    | some c=>have:=h m rfl c (List.mem_of_getElem? e); simp only []; omega
theorem strOk_small {l:List Nat} (h:∀ c ∈ l,c < 200):PyData.strOk (txt l) = true:=by
  unfold PyData.strOk txt
  simp only [Array.all_eq_true_iff_forall_mem,List.mem_toArray,decide_eq_true_eq]
  intro c hc; have:=h c hc; omega
theorem strOk_mark {L:Nat} (hL:L ≤ 26) {m:List Nat} (h:Ls L m):PyData.strOk (txt m) = true:=strOk_small fun c hc=>by have:=h c hc; omega
theorem signs_small:∀ c ∈ SIGNS,c < 200:=by decide
theorem strOk_thing {t:List Nat} (h:Thing t):PyData.strOk (txt t) = true:=strOk_small fun c hc=>signs_small c (h.2.2 c hc)
theorem same_keep {H0 H H':Hp} {F:List Addr} (s:Same H0 H) (k:Keeps F H H') (h:∀ a ∈ F,H0 a = none):Same H0 H':=fun b o e=>k b o (s b o e) (fun z=>by rw [h b z] at e; cases e)
structure Stem (L:Nat) (lo hi:Option (List Nat)) (n w:Nat) (m:List Nat):Prop where
  least:LeastB false L (endsL L 1 0) lo hi 1 n
  eq:m = low L w n
  own:ow L (endsL L 1 0) w = true
  ge:valO L lo n + 1 ≤ w
  lt:w < highO L hi n
  at_:(MM.ob L (endsL L 1 0) w:Int) = (MM.ob L (endsL L 1 0) (valO L lo n + 1):Int) + (roomB false L (endsL L 1 0) lo hi n - 1) / 2
theorem lt_app {t:List Nat}:∀ {l m:List Nat},l < m→l < m ++ t
  | l,[],h=>absurd h (List.not_lt_nil _)
  | [],c :: m,_=>by simp
  | a :: l,c :: m,h=>by
    rw [List.cons_append,List.cons_lt_cons_iff]
    rcases List.cons_lt_cons_iff.mp h with z | ⟨z1,z2⟩
    · exact .inl z
    · exact .inr ⟨z1,lt_app z2⟩
theorem val_lt_app {K:Nat} (hK:0 < K) {t:List Nat}:∀ {x h:List Nat} (n:Nat),Ls K x→Ls K h→x.length = n→val K x n < val K h n→x ++ t < h∧h.take n ≠ x
  | [],h,n,_,_,e,hv=>by
    obtain rfl:n = 0:=by simpa using e.symm
    rw [val_zero,val_zero] at hv
    omega
  | c :: x,[],n,_,_,_,hv=>by rw [val_nil] at hv; omega
  | c :: x,d :: h,0,_,_,e,_=>by simp at e
  | c :: x,d :: h,n + 1,hx,hh,e,hv=>by
    rw [val_cons,val_cons,lt_parts (val_lt hK n hx.tail) (val_lt hK n hh.tail),(sub97 hx.head.1 hh.head.1).1,(sub97 hx.head.1 hh.head.1).2] at hv
    rw [List.cons_append,List.cons_lt_cons_iff,List.take_succ_cons]
    rcases hv with z | ⟨rfl,z⟩
    · exact ⟨.inl z,fun e=>by have:=(List.cons.inj e).1; omega⟩
    · obtain ⟨a,b⟩:=val_lt_app hK (t:=t) n hx.tail hh.tail (by simpa using e) z
      exact ⟨.inr ⟨rfl,a⟩,fun e=>b (List.cons.inj e).2⟩
theorem val_take (K:Nat):∀ (u:List Nat) (n:Nat),val K (u.take n) n = val K u n
  | u,0=>by rw [val_zero,val_zero]
  | [],n + 1=>rfl
  | c :: u,n + 1=>by rw [List.take_succ_cons,val_cons,val_cons,val_take K u n]
section
variable {L n w:Nat} {lo hi:Option (List Nat)} {m:List Nat}
theorem high_le (hL:0 < L) (M:MarksOk L lo hi):highO L hi n ≤ L ^ n:=by
  cases hi with
  | none=>exact Nat.le_refl _
  | some u=>exact Nat.le_of_lt (val_lt hL n (M.mhi u rfl).1.ls)
theorem Stem.all (S:Stem L lo hi n w m) (hL:2 ≤ L) (M:MarksOk L lo hi) (ok:OkLH lo hi) :
    Mark L m∧m.length = n∧val L m n = w∧n ≤ 1 + max (lenO lo) (lenO hi)∧(∀ l,lo = some l→∀ t,l < m ++ t)∧∀ u,hi = some u→∀ t,m ++ t < u∧u.take n ≠ m:=by
  have hL0:0 < L:=by omega
  have hw:w < L ^ n:=Nat.lt_of_lt_of_le S.lt (high_le hL0 M)
  have hm:m.length = n:=by rw [S.eq,low_length]
  have hv:val L m n = w:=by rw [S.eq,low_val_eq hL0,Nat.mod_eq_of_lt hw]
  have h0:=(own_all hL0).mp S.own
  have hn1:=S.least.pos
  have hnl:=S.least.len1 hL (ends_ok (K:=L) (h:=1) (j:=0) (by decide) (by omega)) M ok
  have hls:Ls L m:=by rw [S.eq]; exact low_ls hL0 _ _
  obtain ⟨n',rfl⟩:∃ n',n = n' + 1:=⟨n - 1,by omega⟩
  refine ⟨⟨hls,fun c hc=>?_,fun z=>by rw [z] at hm; simp at hm⟩,hm,hv,hnl,fun l e t=>lt_app ?_,fun u e t=>?_⟩
  · rw [S.eq,low_last hL0] at hc
    have:=Option.some.inj hc
    omega
  · rw [S.eq,low_iff hL0 hw h0 (M.mlo l e).1.ls]
    have:=S.ge
    rw [e] at this
    exact this
  · refine val_lt_app hL0 (n' + 1) hls (M.mhi u e).1.ls hm ?_
    have:=S.lt
    rw [e] at this
    rw [hv]
    exact this
theorem last_take {u:List Nat} {n':Nat} (hL:0 < L) (mu:Mark L u) (h:n' + 1 < u.length):(u.take (n' + 1)).getLast? = some (97 + val L u (n' + 1) % L):=by
  have hl:(u.take (n' + 1)).length = n' + 1:=by rw [List.length_take]; omega
  have hc:=mu.ls u[n'] (List.getElem_mem (by omega))
  rw [List.getLast?_eq_getElem?,hl,Nat.add_sub_cancel,List.getElem?_take,if_pos (by omega),List.getElem?_eq_getElem (by omega),val_succ,Nat.mul_comm,Nat.mul_add_mod]
  have e:fig u n' = u[n'] - 97:=by unfold fig; rw [List.getElem?_eq_getElem (by omega)]
  rw [e,Nat.mod_eq_of_lt (by omega)]
  congr 1
  omega
end
def spStem (c:Addr):Sp:=fun vs H Q E=>∃ (L:Nat) (lo hi:Option (List Nat)),vs = [.int L,oV lo,oV hi]∧2 ≤ L∧L ≤ 26∧MarksOk L lo hi∧(OkLH lo hi→∀ H' n w m,Same H H'→Stem L lo hi n w m→Q (.str (txt m)) H')∧(¬ OkLH lo hi→E (.ref c) none H)
def rdStem (c:Addr) (E:XK):TS:=
    tSeq (tDrop (tCall (spAskRoom c) [] E (tCons (tVar 1) (tCons (tVar 2) tNil))))
      (tSeq (tAsg (tCall spEnds [] E0 (tCons (tVar 0) (tCons (tC (.int 1)) (tCons (tC (.int 0)) tNil)))) (gName 3))
      (tSeq (tAsg (tCall spLeastC [] E0 (tCons (tVar 0) (tCons (tVar 3) (tCons (tVar 1) (tCons (tVar 2) (tCons (tC (.int 1)) (tCons (tC (.bl false)) tNil))))))) (gName 4))
      (tSeq (tAsg (tCall spCounted [] E0 (tCons (tVar 0) (tCons (tVar 3) (tCons (tVar 1) (tCons (tVar 2) (tCons (tVar 4) (tCons (tC (.bl false)) tNil))))))) (gName 5))
      (tRet (tCall (spNth c) [] E (tCons (tVar 0) (tCons (tC (.int 1)) (tCons (tC (.int 0)) (tCons (tVar 1) (tCons (tVar 2) (tCons (tVar 4) (tCons (tOp rDivI (tOp rSubI (tVar 5) (tC (.int 1))) (tC (.int 2))) tNil))))))))))))
theorem read_stem {c:Addr} {N:List Str} {vs:List V} {H:Hp} {Q:VK} {E:XK} (hN:N.length = 6) (h:spStem c vs H Q E):rdStem c E { nx:=fun _ H'=>Q .non H',rt:=Q } (L2.start N vs) H:=by
  obtain ⟨L,lo,hi,rfl,hL,hL26,M,q1,q2⟩:=h
  unfold rdStem L2.start
  rw [hN]
  have hL0:0 < L:=by omega
  obtain ⟨okl,okh⟩:=M.okO hL26
  have E1:=ends_ok (K:=L) (h:=1) (j:=0) (by decide) (by omega)
  have hlen:=M.lens
  and_intros
  refine ⟨lo,hi,rfl,fun ok=>?_,q2⟩
  and_intros
  refine ⟨L,1,0,rfl,hL26,by decide,fun H1 s1=>?_⟩
  and_intros
  refine ⟨L,_,lo,hi,1,false,rfl,hL,hL26,endsL_len hL26,E1,M,ok,by omega,by omega,fun H2 n s2 LN=>?_⟩
  have hn:n ≤ 1002:=by have:=LN.len; omega
  and_intros
  refine ⟨L,_,lo,hi,n,false,rfl,hL0,hL26,endsL_len hL26,okl,okh,by omega,fun H3 s3=>?_⟩
  and_intros
  have r1:=LN.room
  obtain ⟨k,hk⟩:=Int.eq_ofNat_of_zero_le (a:=(roomB false L (endsL L 1 0) lo hi n - 1) / 2) (by omega)
  refine ⟨cdiv (by decide) (by decide),L,1,0,lo,hi,n,k,by rw [hk]; rfl,M.roomIn (hand1 hL hL26) (by omega),by decide,by omega,fun _ H4 s4=>?_,fun z=>absurd ok z⟩
  have q:=q1 ok H4 n (nth L (endsL L 1 0) (MM.ob L (endsL L 1 0) (valO L lo n + 1) + k)) (low L (nth L (endsL L 1 0) (MM.ob L (endsL L 1 0) (valO L lo n + 1) + k)) n) (((s1.trans s2).trans s3).trans s4)
  obtain ⟨n',rfl⟩:∃ n',n = n' + 1:=⟨n - 1,by have:=LN.pos; omega⟩
  rw [mk_low hL0 (nth_mod E1 _)]
  obtain ⟨o1,o2⟩:=ob_nth hL0 E1 (MM.ob L (endsL L 1 0) (valO L lo (n' + 1) + 1) + k)
  have hri:roomB false L (endsL L 1 0) lo hi (n' + 1) = (MM.ob L (endsL L 1 0) (highO L hi (n' + 1)):Nat) - (MM.ob L (endsL L 1 0) (valO L lo (n' + 1) + 1):Nat):=rfl
  obtain ⟨i1,i2⟩:=nth_in hL0 E1 (A:=valO L lo (n' + 1) + 1) (B:=highO L hi (n' + 1)) (p:=MM.ob L (endsL L 1 0) (valO L lo (n' + 1) + 1) + k) (by omega) (by omega)
  exact q ⟨LN,rfl,o2,i1,i2,by rw [o1,hk]; omega⟩
abbrev RwN:=List Nat × Option (List Nat)
def rowP (r:RwN):V × V:=(strV r.1,oV r.2)
def firstN (R:List RwN):Option (List Nat):=R.findSome? (·.2)
def isBel (m:List Nat) (r:RwN):Bool:=decide (r.1 < m)
def lowN (R:List RwN) (m:List Nat):Option (List Nat):=firstN (R.reverse.filter (isBel m))
def highN (R:List RwN) (m:List Nat):Option (List Nat):=firstN (R.filter fun r=>!isBel m r)
structure RowsOk (L:Nat) (R:List RwN):Prop where
  up:R.Pairwise fun a b=>a.1 < b.1
  olds:∀ r ∈ R,Mark L r.1∧r.1.length ≤ 500
  news:R.Pairwise fun a b=>∀ x y,a.2 = some x→b.2 = some y→x < y
  marks:∀ r ∈ R,∀ n,r.2 = some n→Mark L n∧n.length ≤ 500
  len:R.length ≤ 10000
theorem ll_lt_le {a b c:List Nat} (h:a < b) (g:¬ c < b):a < c:=by
  rcases Nat.lt_or_ge 0 1 with _ | z
  · by_cases z:a < c
    · exact z
    · exact absurd (List.lt_of_le_of_lt (List.not_lt.mp z) h) g
  · omega
theorem firstN_cons (r:RwN) (R:List RwN):firstN (r :: R) = match r.2 with | some x=>some x | none=>firstN R:=by
  unfold firstN
  rw [List.findSome?_cons]
  cases r.2 <;> rfl
theorem firstN_mem {R:List RwN} {x:List Nat} (h:firstN R = some x):∃ r ∈ R,r.2 = some x:=by
  obtain ⟨r,hr,e⟩:=List.exists_of_findSome?_eq_some h
  exact ⟨r,hr,e⟩
theorem firstN_filter {p q:RwN→Bool}:∀ {R:List RwN},(∀ r ∈ R,r.2 ≠ none→p r = q r)→firstN (R.filter p) = firstN (R.filter q)
  | [],_=>rfl
  | a :: R,h=>by
    have ih:=firstN_filter (p:=p) (q:=q) (R:=R) fun r hr=>h r (List.mem_cons_of_mem _ hr)
    cases ea:a.2 with
    | some z=>
      have e:=h a List.mem_cons_self (by rw [ea]; simp)
      cases hq:q a with
      | true=>rw [List.filter_cons_of_pos (by rw [e,hq]),List.filter_cons_of_pos hq,firstN_cons,firstN_cons,ea]
      | false=>rw [List.filter_cons_of_neg (by rw [e,hq]; decide),List.filter_cons_of_neg (by rw [hq]; decide)]; exact ih
    | none=>
      have k:∀ f:RwN→Bool,firstN ((a :: R).filter f) = firstN (R.filter f):=fun f=>by
        cases hf:f a with
        | true=>rw [List.filter_cons_of_pos hf,firstN_cons,ea]
        | false=>rw [List.filter_cons_of_neg (by rw [hf]; decide)]
      rw [k,k]
      exact ih
variable {L:Nat} {R:List RwN}
theorem rows_at {T:RwN→RwN→Prop} (h:R.Pairwise T) {r s:RwN} (hr:r ∈ R) (hs:s ∈ R):r = s ∨ T r s ∨ T s r:=by
  obtain ⟨i,hi,rfl⟩:=List.mem_iff_getElem.mp hr
  obtain ⟨j,hj,rfl⟩:=List.mem_iff_getElem.mp hs
  rw [List.pairwise_iff_getElem] at h
  rcases Nat.lt_trichotomy i j with z | z | z
  · exact .inr (.inl (h i j hi hj z))
  · subst z; exact .inl rfl
  · exact .inr (.inr (h j i hj hi z))
theorem RowsOk.rise (O:RowsOk L R) {r s:RwN} {x y:List Nat} (hr:r ∈ R) (hs:s ∈ R) (h:r.1 < s.1) (hx:r.2 = some x) (hy:s.2 = some y):x < y:=by
  have both:=O.up.and O.news
  rcases rows_at both hr hs with e | ⟨_,e⟩ | ⟨e,_⟩
  · subst e; exact absurd h (List.lt_irrefl _)
  · exact e x y hx hy
  · exact absurd (List.lt_trans h e) (List.lt_irrefl _)
theorem RowsOk.one (O:RowsOk L R) {r s:RwN} (hr:r ∈ R) (hs:s ∈ R) (h:r.1 = s.1):r = s:=by
  rcases rows_at O.up hr hs with e | e | e
  · exact e
  · rw [h] at e; exact absurd e (List.lt_irrefl _)
  · rw [h] at e; exact absurd e (List.lt_irrefl _)
theorem lowN_mem {m x:List Nat} (h:lowN R m = some x):∃ r ∈ R,r.1 < m∧r.2 = some x:=by
  obtain ⟨r,hr,e⟩:=firstN_mem h
  obtain ⟨h1,h2⟩:=List.mem_filter.mp hr
  exact ⟨r,List.mem_reverse.mp h1,of_decide_eq_true h2,e⟩
theorem highN_mem {m x:List Nat} (h:highN R m = some x):∃ r ∈ R,¬ r.1 < m∧r.2 = some x:=by
  obtain ⟨r,hr,e⟩:=firstN_mem h
  obtain ⟨h1,h2⟩:=List.mem_filter.mp hr
  refine ⟨r,h1,?_,e⟩
  intro z
  rw [isBel,decide_eq_true z] at h2
  cases h2
theorem RowsOk.marksOk (O:RowsOk L R) (m:List Nat):MarksOk L (lowN R m) (highN R m) where
  mlo:=fun x h=>by obtain ⟨r,hr,_,e⟩:=lowN_mem h; have:=O.marks r hr x e; exact ⟨this.1,by omega⟩
  mhi:=fun x h=>by obtain ⟨r,hr,_,e⟩:=highN_mem h; have:=O.marks r hr x e; exact ⟨this.1,by omega⟩
theorem RowsOk.okLH (O:RowsOk L R) (m:List Nat):OkLH (lowN R m) (highN R m):=fun x y hx hy=>by
  obtain ⟨r,hr,h1,e1⟩:=lowN_mem hx
  obtain ⟨s,hs,h2,e2⟩:=highN_mem hy
  exact O.rise hr hs (ll_lt_le h1 h2) e1 e2
theorem RowsOk.lens (O:RowsOk L R) (m:List Nat):lenO (lowN R m) ≤ 500∧lenO (highN R m) ≤ 500:=by
  constructor
  · cases h:lowN R m with
    | none=>exact Nat.zero_le _
    | some x=>obtain ⟨r,hr,_,e⟩:=lowN_mem h; exact (O.marks r hr x e).2
  · cases h:highN R m with
    | none=>exact Nat.zero_le _
    | some x=>obtain ⟨r,hr,_,e⟩:=highN_mem h; exact (O.marks r hr x e).2
theorem Stem.one {lo hi:Option (List Nat)} {n w n' w':Nat} {m m':List Nat} (hL:2 ≤ L) (A:Stem L lo hi n w m) (B:Stem L lo hi n' w' m'):m = m':=by
  have E:MM.Ends L (endsL L 1 0):=ends_ok (K:=L) (h:=1) (j:=0) (by decide) (by omega)
  obtain rfl:=A.least.one B.least
  have h1:=A.at_
  have h2:=B.at_
  have hw:w = w':=by
    rcases Nat.lt_trichotomy w w' with z | z | z
    · have:=ob_mono (by omega) E (show w + 1 ≤ w' by omega)
      have:=ob_succ (by omega) E w
      rw [A.own] at this
      simp at this
      omega
    · exact z
    · have:=ob_mono (by omega) E (show w' + 1 ≤ w by omega)
      have:=ob_succ (by omega) E w'
      rw [B.own] at this
      simp at this
      omega
  subst hw
  rw [A.eq,B.eq]
def Car (L:Nat) (R:List RwN) (m:List Nat) (v:Option (List Nat)):Prop:=(∃ r ∈ R,r.1 = m∧v = r.2) ∨ ((∀ r ∈ R,r.1 ≠ m)∧∃ n w s,Stem L (lowN R m) (highN R m) n w s∧v = some (s ++ m))
theorem Car.one (O:RowsOk L R) (hL:2 ≤ L) {m:List Nat} {v v':Option (List Nat)} (A:Car L R m v) (B:Car L R m v'):v = v':=by
  rcases A with ⟨r,hr,e,rfl⟩ | ⟨h1,n,w,s,S,rfl⟩ <;> rcases B with ⟨r',hr',e',rfl⟩ | ⟨h2,n',w',s',S',rfl⟩
  · rw [O.one hr hr' (e.trans e'.symm)]
  · exact absurd e (h2 r hr)
  · exact absurd e' (h1 r' hr')
  · rw [S.one hL S']
theorem Car.len (O:RowsOk L R) (hL:2 ≤ L) {m x:List Nat} (M:Mark L m) (A:Car L R m (some x)):Mark L x∧x.length ≤ 501 + m.length:=by
  rcases A with ⟨r,hr,e,h⟩ | ⟨h1,n,w,s,S,h⟩
  · have:=O.marks r hr x h.symm
    exact ⟨this.1,by omega⟩
  · injection h with h
    subst h
    obtain ⟨a1,a2,a3,a4,_⟩:=S.all hL (O.marksOk m) (O.okLH m)
    have:=O.lens m
    exact ⟨⟨a1.ls.app M.ls,Na.app M.na M.ne,by simp [M.ne]⟩,by rw [List.length_append]; omega⟩
def AtRows (K:PySem.W.Frag) (H:Hp) (p:Addr) (R:List RwN):Prop:=∃ xs,SqL K H p xs∧Prs H xs (R.map rowP)
theorem AtRows.get {K:PySem.W.Frag} {H:Hp} {p:Addr} {R:List RwN} (h:AtRows K H p R) {i:Nat} {r:RwN} (hi:R[i]? = some r):∃ xs t,SqL K H p xs∧xs[i]? = some (.ref t)∧SqT K H t [strV r.1,oV r.2]:=by
  obtain ⟨xs,a,b⟩:=h
  have hl:=b.len
  rw [List.length_map] at hl
  have hlt:i < R.length:=(List.getElem?_eq_some_iff.mp hi).1
  obtain ⟨x,hx⟩:=some_at (l:=xs) (i:=i) (by omega)
  obtain ⟨q,t,e1,e2,e3⟩:=b.get hx
  rw [List.getElem?_map,hi] at e1
  cases e1
  subst e2
  exact ⟨xs,t,a,hx,SqT.of e3⟩
def spAheadR (K:PySem.W.Frag):Sp:=fun vs H Q _=>∃ (p:Addr) (R:List RwN) (m:List Nat),vs = [.ref p,.str (txt m)]∧AtRows K H p R∧R.Pairwise (fun a b=>a.1 < b.1)∧R.length ≤ 10000∧
  ∀ k,k ≤ R.length→(∀ r ∈ R.take k,r.1 < m)→(∀ r ∈ R.drop k,¬ r.1 < m)→Q (.int (k:Nat)) H
def rdAheadR (K:PySem.W.Frag):TS:=
    tSeq (tAsg (tC (.int 0)) (gName 2))
      (tSeq (tAsg (tCB (rLenL K) (tCons (tVar 0) tNil)) (gName 3))
      (tSeq (tWhile (tTest (tOp rLtI (tVar 2) (tVar 3))) (tSeq (tAsg (tOp rDivI (tOp rAddI (tVar 2) (tVar 3)) (tC (.int 2))) (gName 4))
      (tIfS (tTest (tOp rLtS (tOp (rIxT K) (tOp (rIxL K) (tVar 0) (tVar 4)) (tC (.int 0))) (tVar 1))) (tAsg (tOp rAddI (tVar 4) (tC (.int 1))) (gName 2)) (tAsg (tVar 4) (gName 3)))))
      (tRet (tVar 2))))
def AheadInv (p:Addr) (R:List RwN) (m:List Nat) (H:Hp):Nat→St→Hp→Prop:=fun c σ H'=>∃ (f l:Nat) (v4:Option V),H' = H∧σ = [some (.ref p),some (.str (txt m)),some (.int f),some (.int l),v4]∧f ≤ l∧l ≤ R.length∧c = l - f∧
  (∀ i r,R[i]? = some r→i < f→r.1 < m)∧∀ i r,R[i]? = some r→l ≤ i→¬ r.1 < m
theorem read_aheadR {K:PySem.W.Frag} {N:List Str} {vs:List V} {H:Hp} {Q:VK} {E:XK} (hN:N.length = 5) (h:spAheadR K vs H Q E):rdAheadR K { nx:=fun _ H'=>Q .non H',rt:=Q } (L2.start N vs) H:=by
  obtain ⟨p,R,m,rfl,hA,up,hl,q⟩:=h
  unfold rdAheadR L2.start
  rw [hN]
  refine seq_set fun c hc=>?_
  and_intros
  refine hc _ _ ?_
  clear hc c
  refine seq_set fun c hc=>?_
  and_intros
  obtain ⟨xs,hq,hp⟩:=id hA
  have hxl:=hp.len
  rw [List.length_map] at hxl
  refine lenL_go hq (hc _ _ ?_)
  clear hc c
  rw [hxl]
  refine seq_any fun c hc=>?_
  refine while_of (AheadInv p R m H) R.length ⟨0,R.length,none,rfl,rfl,Nat.zero_le _,Nat.le_refl _,rfl,fun i r _ h=>absurd h (Nat.not_lt_zero _),fun i r e h=>absurd (List.getElem?_eq_some_iff.mp e).1 (by omega)⟩ ?_
  rintro cc σ H' ⟨f,l,v4,rfl,rfl,h1,h2,rfl,h3,h4⟩ W hT hF
  and_intros
  by_cases z:(f:Int) < (l:Int)
  · rw [decide_eq_true z]
    refine hT _ ?_
    refine seq_set fun c2 hc2=>?_
    and_intros
    refine ⟨cdiv (by decide) (by decide),hc2 _ _ ?_⟩
    clear hc2 c2
    rw [show ((f:Int) + (l:Int)) / 2 = (((f + l) / 2:Nat):Int) by omega]
    generalize hg:(f + l) / 2 = g
    obtain ⟨r,hr⟩:=some_at (l:=R) (i:=g) (by omega)
    obtain ⟨ys,t,b1,b2,b3⟩:=hA.get hr
    and_intros
    refine ixL_go b1 (by omega) (by rw [Int.toNat_natCast]; exact b2) ?_
    refine ixT_go (v:=strV r.1) b3 (by decide) rfl ?_
    simp? [strV]
    have gt:∀ i r',R[i]? = some r'→g ≤ i→¬ r.1 < m→¬ r'.1 < m:=fun i r' e hi hn hm=>by
      rcases Nat.eq_or_lt_of_le hi with e2 | e2
      · subst e2; rw [hr] at e; cases e; exact hn hm
      · obtain ⟨a1,a2⟩:=List.getElem?_eq_some_iff.mp hr
        obtain ⟨a3,a4⟩:=List.getElem?_eq_some_iff.mp e
        have:=List.pairwise_iff_getElem.mp up g i a1 a3 e2
        rw [a2,a4] at this
        exact hn (List.lt_trans this hm)
    have lt:∀ i r',R[i]? = some r'→i < g + 1→r.1 < m→r'.1 < m:=fun i r' e hi hm=>by
      rcases Nat.eq_or_lt_of_le (Nat.le_of_lt_succ hi) with e2 | e2
      · subst e2; rw [hr] at e; cases e; exact hm
      · obtain ⟨a1,a2⟩:=List.getElem?_eq_some_iff.mp hr
        obtain ⟨a3,a4⟩:=List.getElem?_eq_some_iff.mp e
        have:=List.pairwise_iff_getElem.mp up i g a3 a1 e2
        rw [a2,a4] at this
        exact List.lt_trans this hm
    refine ⟨_,_,rfl,rfl,_,rfl,?_⟩
    by_cases y:r.1 < m
    · rw [if_pos (decide_eq_true y)]
      exact ⟨_,show l - (g + 1) < l - f by omega,g + 1,l,_,rfl,rfl,by omega,h2,rfl,fun i r' e hi=>lt i r' e hi y,h4⟩
    · rw [if_neg (by rw [decide_eq_false y]; decide)]
      exact ⟨_,show g - f < l - f by omega,f,g,_,rfl,rfl,by omega,by omega,rfl,h3,fun i r' e hi=>gt i r' e hi y⟩
  · rw [decide_eq_false z]
    refine hF _ (hc _ _ ?_)
    and_intros
    have e:f = l:=by omega
    subst e
    refine q f h2 (fun r hr=>?_) fun r hr=>?_
    · obtain ⟨i,hi,rfl⟩:=List.mem_iff_getElem.mp hr
      rw [List.length_take] at hi
      exact h3 i _ (by rw [List.getElem_take]; exact List.getElem?_eq_getElem (by omega)) (by omega)
    · obtain ⟨i,hi,rfl⟩:=List.mem_iff_getElem.mp hr
      rw [List.length_drop] at hi
      exact h4 (f + i) _ (by rw [List.getElem_drop]; exact List.getElem?_eq_getElem (by omega)) (by omega)
def spFirstN (K:PySem.W.Frag):Sp:=fun vs H Q _=>∃ (p:Addr) (R:List RwN),vs = [.ref p]∧AtRows K H p R∧Q (oV (firstN R)) H
def rdFirstN (K:PySem.W.Frag):TS:=
    tSeq (tFor (iList K (tVar 0)) (gTup K 2 (gCons (gName 1) (gCons (gName 2) gNil))) (tIfS (tB (tNotN (tVar 2))) (tRet (tVar 2)) (tNext)))
      (tRet (tC .non))
theorem firstN_drop {R:List RwN} {i:Nat} {r:RwN} (h:R[i]? = some r):firstN (R.drop i) = match r.2 with | some x=>some x | none=>firstN (R.drop (i + 1)):=by
  rw [drop_get h]
  exact (firstN_cons r _).trans (by cases r.2 <;> rfl)
theorem read_firstN {K:PySem.W.Frag} {N:List Str} {vs:List V} {H:Hp} {Q:VK} {E:XK} (hN:N.length = 3) (h:spFirstN K vs H Q E):rdFirstN K { nx:=fun _ H'=>Q .non H',rt:=Q } (L2.start N vs) H:=by
  obtain ⟨p,R,rfl,⟨xs,hq,hp⟩,q⟩:=h
  unfold rdFirstN L2.start
  rw [hN]
  have hxl:=hp.len
  rw [List.length_map] at hxl
  refine seq_any fun c hc=>?_
  and_intros
  refine for_l (a:=p) (xs:=xs) (fun Q h=>⟨_,rfl,h⟩) hq (fun i σ H'=>∃ (v1 v2:Option V),H' = H∧σ = [some (.ref p),v1,v2]∧firstN (R.drop i) = firstN R) ⟨_,_,rfl,rfl,by rw [List.drop_zero]⟩ (fun i σ H' _ h=>by obtain ⟨_,_,e,_⟩:=h; rw [e]; exact hq) ?_ ?_
  · rintro i x σ H' hx ⟨v1,v2,rfl,rfl,hf⟩
    obtain ⟨k,t,ek,rfl,ht⟩:=hp.get hx
    rw [List.getElem?_map] at ek
    obtain ⟨⟨m,v⟩,ek2,rfl⟩:=Option.map_eq_some_iff.mp ek
    rw [firstN_drop ek2] at hf
    simp? [gTup,gCons,gNil,rowP]
    refine ⟨[strV m,oV v],SqT.of ht,rfl,strV m,[oV v],rfl,oV v,[],rfl,rfl,?_⟩
    cases v with
    | none=>
      simp? [oV]
      exact ⟨_,_,rfl,hf⟩
    | some y=>
      simp? [oV]
      rw [← hf] at q
      exact q
  · rintro σ H' ⟨v1,v2,rfl,rfl,hf⟩
    refine hc _ _ ?_
    and_intros
    rw [← hf,List.drop_of_length_le (by omega)] at q
    exact q
def kO:Option (List Nat)→Key
  | none=>.non
  | some l=>.inr (txt l)
theorem kO_V (o:Option (List Nat)):kV (kO o) = oV o:=by cases o <;> rfl
theorem kO_inj {a b:Option (List Nat)} (h:kO a = kO b):a = b:=by
  cases a <;> cases b
  · rfl
  · cases h
  · cases h
  · injection h with h; rw [txt_inj.mp h]
def StemsD (L:Nat) (kvs:List (List Key × V)):Prop:=∀ lo hi v,valV kvs [kO lo,kO hi] = some v→∃ n w s,v = strV s∧Stem L lo hi n w s
theorem StemsD.nil (L:Nat):StemsD L []:=fun lo hi v h=>by cases h
theorem StemsD.put {L:Nat} {kvs:List (List Key × V)} (h:StemsD L kvs) {lo hi:Option (List Nat)} {n w:Nat} {s:List Nat} (S:Stem L lo hi n w s):StemsD L (putK kvs [kO lo,kO hi] (strV s)):=fun lo' hi' v e=>by
  rw [valV_put] at e
  split at e
  · rename_i q
    injection q with q1 q2
    injection q2 with q2 _
    rw [kO_inj q1,kO_inj q2]
    injection e with e
    exact ⟨n,w,s,e.symm,S⟩
  · exact h _ _ _ e
def spCarK (K:PySem.W.Frag):Sp:=fun vs H Q _=>∃ (L:Nat) (p d:Addr) (R:List RwN) (m:List Nat) (kvs:List (List Key × V)),vs = [.int L,.ref p,.str (txt m),.ref d]∧2 ≤ L∧L ≤ 26∧AtRows K H p R∧RowsOk L R∧Mark L m∧m.length ≤ 90000∧
  H d = some (.dT kvs)∧StemsD L kvs∧kvs.length ≤ 100000∧
  ∀ H' v kvs',Keeps [d] H H'→H' d = some (.dT kvs')→StemsD L kvs'→kvs'.length ≤ kvs.length + 1→Car L R m v→Q (oV v) H'
def rdCarK (K:PySem.W.Frag) (c:Addr):TS:=
    tSeq (tAsg (tCall (spAheadR K) [] E0 (tCons (tVar 1) (tCons (tVar 2) tNil))) (gName 4))
      (tSeq (tIfS (tAnd (tTest (tOp rLtI (tVar 4) (tCB (rLenL K) (tCons (tVar 1) tNil)))) (tTest (tOp rEq (tOp (rIxT K) (tOp (rIxL K) (tVar 1) (tVar 4)) (tC (.int 0))) (tVar 2)))) (tRet (tOp (rIxT K) (tOp (rIxL K) (tVar 1) (tVar 4)) (tC (.int 1)))) (tNext))
      (tSeq (tAsg (tCall (spFirstN K) [] E0 (tCons (tListRev K (tCons (tSl (rSlL K) (tVar 1) tNoPart (tPart (tVar 4))) tNil)) tNil)) (gName 5))
      (tSeq (tAsg (tCall (spFirstN K) [] E0 (tCons (tSl (rSlL K) (tVar 1) (tPart (tVar 4)) tNoPart) tNil)) (gName 6))
      (tSeq (tIfS (tTest (tOp (rInD true) (tTup (tCons (tVar 5) (tCons (tVar 6) tNil))) (tVar 3))) (sDPut (tVar 3) (tTup (tCons (tVar 5) (tCons (tVar 6) tNil))) (tCall (spStem c) [] E0 (tCons (tVar 0) (tCons (tVar 5) (tCons (tVar 6) tNil))))) (tNext))
      (tRet (tOp rAddS (tDGet (tVar 3) (tTup (tCons (tVar 5) (tCons (tVar 6) tNil)))) (tVar 2)))))))
theorem Prs.take {H:Hp}:∀ {xs:List V} {ps:List (V × V)} (n:Nat),Prs H xs ps→Prs H (xs.take n) (ps.take n)
  | [],[],n,_=>by simp [Prs]
  | [],_ :: _,_,h=>h.elim
  | _ :: _,[],_,h=>h.elim
  | _ :: _,_ :: _,0,_=>trivial
  | _ :: _,_ :: _,n + 1,⟨a,r⟩=>⟨a,Prs.take n r⟩
theorem Prs.drop {H:Hp}:∀ {xs:List V} {ps:List (V × V)} (n:Nat),Prs H xs ps→Prs H (xs.drop n) (ps.drop n)
  | [],[],n,_=>by simp [Prs]
  | [],_ :: _,_,h=>h.elim
  | _ :: _,[],_,h=>h.elim
  | _ :: _,_ :: _,0,h=>h
  | _ :: _,_ :: _,n + 1,⟨_,r⟩=>Prs.drop n r
theorem Prs.rev {H:Hp}:∀ {xs:List V} {ps:List (V × V)},Prs H xs ps→Prs H xs.reverse ps.reverse
  | [],[],_=>trivial
  | [],_ :: _,h=>h.elim
  | _ :: _,[],h=>h.elim
  | _ :: _,_ :: _,⟨a,r⟩=>by
    rw [List.reverse_cons,List.reverse_cons]
    exact Prs.app (Prs.rev r) ⟨a,trivial⟩
section
variable {L:Nat} {R:List RwN} {m:List Nat} {k:Nat}
theorem filt_take (h1:∀ r ∈ R.take k,r.1 < m) (h2:∀ r ∈ R.drop k,¬ r.1 < m):R.filter (isBel m) = R.take k∧R.filter (fun r=>!isBel m r) = R.drop k:=by
  have a1:(R.take k).filter (isBel m) = R.take k:=List.filter_eq_self.mpr fun r hr=>decide_eq_true (h1 r hr)
  have a2:(R.drop k).filter (isBel m) = []:=List.filter_eq_nil_iff.mpr fun r hr=>by rw [isBel,decide_eq_false (h2 r hr)]; decide
  have a3:(R.take k).filter (fun r=>!isBel m r) = []:=List.filter_eq_nil_iff.mpr fun r hr=>by rw [isBel,decide_eq_true (h1 r hr)]; decide
  have a4:(R.drop k).filter (fun r=>!isBel m r) = R.drop k:=List.filter_eq_self.mpr fun r hr=>by rw [isBel,decide_eq_false (h2 r hr)]; rfl
  constructor
  · conv=>lhs; rw [← List.take_append_drop k R]
    rw [List.filter_append,a1,a2,List.append_nil]
  · conv=>lhs; rw [← List.take_append_drop k R]
    rw [List.filter_append,a3,a4,List.nil_append]
theorem low_take (h1:∀ r ∈ R.take k,r.1 < m) (h2:∀ r ∈ R.drop k,¬ r.1 < m):firstN (R.take k).reverse = lowN R m:=by
  unfold lowN
  rw [List.filter_reverse,(filt_take h1 h2).1]
theorem high_drop (h1:∀ r ∈ R.take k,r.1 < m) (h2:∀ r ∈ R.drop k,¬ r.1 < m):firstN (R.drop k) = highN R m:=by
  unfold highN
  rw [(filt_take h1 h2).2]
theorem no_row (up:R.Pairwise fun a b=>a.1 < b.1) (h1:∀ r ∈ R.take k,r.1 < m) (h2:∀ r ∈ R.drop k,¬ r.1 < m) (h3:∀ r,R[k]? = some r→r.1 ≠ m):∀ r ∈ R,r.1 ≠ m:=fun r hr e=>by
  rw [← List.take_append_drop k R] at hr
  rcases List.mem_append.mp hr with hr | hr
  · have:=h1 r hr
    rw [e] at this
    exact List.lt_irrefl _ this
  · obtain ⟨i,hi,rfl⟩:=List.mem_iff_getElem.mp hr
    rw [List.length_drop] at hi
    rw [List.getElem_drop] at e
    cases i with
    | zero=>exact h3 _ (List.getElem?_eq_getElem (by omega)) e
    | succ i=>
      have:=List.pairwise_iff_getElem.mp up k (k + (i + 1)) (by omega) (by omega) (by omega)
      rw [e] at this
      exact h2 R[k] (by rw [List.drop_eq_getElem_cons (show k < R.length by omega)]; exact List.mem_cons_self) this
end
theorem slL_go {K:PySem.W.Frag} {H:Hp} {a:Addr} {xs:List V} {lo hi:Option Int} {Q:VK} (h:SqL K H a xs) (q:∀ p,H p = none→Q (.ref p) (upd H p (.lst (cutV xs lo hi)))):rSlL K (.ref a) lo hi H Q:=⟨a,xs,rfl,h,q⟩
theorem Keeps.of_same {F:List Addr} {H H':Hp} (s:Same H H'):Keeps F H H':=fun b o e _=>s b o e
theorem read_carK {K:PySem.W.Frag} {c:Addr} {N:List Str} {vs:List V} {H:Hp} {Q:VK} {E:XK} (hN:N.length = 7) (h:spCarK K vs H Q E):rdCarK K c { nx:=fun _ H'=>Q .non H',rt:=Q } (L2.start N vs) H:=by
  obtain ⟨L,p,d,R,m,kvs,rfl,hL,hL26,hA,O,M,hm,hd,hst,hkv,q⟩:=h
  unfold rdCarK L2.start
  rw [hN]
  refine seq_set fun c1 hc=>?_
  and_intros
  refine ⟨p,R,m,rfl,hA,O.up,O.len,fun k hk h1 h2=>hc _ _ ?_⟩
  clear hc c1
  obtain ⟨xs,hq,hp⟩:=id hA
  have hxl:=hp.len
  rw [List.length_map] at hxl
  refine seq_any fun c1 hc=>?_
  suffices main:(∀ r ∈ R,r.1 ≠ m)→c1 [some (.int L),some (.ref p),some (.str (txt m)),some (.ref d),some (.int k),none,none] H by
    and_intros
    refine lenL_go hq ⟨_,rfl,?_⟩
    rw [hxl]
    by_cases z:(k:Int) < (R.length:Int)
    · rw [if_pos z]
      obtain ⟨r,hr⟩:=some_at (l:=R) (i:=k) (by omega)
      obtain ⟨ys,t,b1,b2,b3⟩:=hA.get hr
      refine ixL_go b1 (by omega) (by rw [Int.toNat_natCast]; exact b2) ?_
      refine ixT_go (v:=strV r.1) b3 (by decide) rfl ?_
      refine ⟨rfl,?_⟩
      by_cases e:r.1 = m
      · rw [if_pos (by rw [e]; rfl)]
        refine ixL_go b1 (by omega) (by rw [Int.toNat_natCast]; exact b2) ?_
        refine ixT_go (v:=oV r.2) b3 (by decide) rfl ?_
        exact q H _ kvs (Keeps.of_same (Same.refl _)) hd hst (by omega) (.inl ⟨r,List.mem_of_getElem? hr,e,rfl⟩)
      · rw [if_neg (fun z=>e (txt_inj.mp (by injection z)))]
        exact main (no_row O.up h1 h2 fun r' hr'=>by rw [hr] at hr'; cases hr'; exact e)
    · rw [if_neg z]
      exact main (no_row O.up h1 h2 fun r' hr'=>absurd (List.getElem?_eq_some_iff.mp hr').1 (by omega))
  intro hno
  refine hc _ _ ?_
  clear hc c1
  refine seq_set fun c1 hc=>?_
  simp? [tListRev]
  refine slL_go hq fun p1 hp1=>?_
  rw [cutV_to (by omega)]
  have s1:=Same.up H hp1 (o:=.lst (xs.take k))
  refine ⟨p1,rfl,xs.take k,SqL.here,fun p2 hp2=>?_⟩
  have s2:=s1.new hp2 (o:=.lst (xs.take k).reverse)
  refine ⟨p2,(R.take k).reverse,rfl,⟨_,SqL.here,?_⟩,hc _ _ ?_⟩
  · have:=(hp.take k).rev
    rw [← List.map_take,← List.map_reverse] at this
    exact this.same s2
  clear hc c1
  rw [low_take h1 h2]
  generalize upd (upd H p1 _) p2 _ = H2 at s2 ⊢
  refine seq_set fun c1 hc=>?_
  and_intros
  refine slL_go (s2.seq hq) fun p3 hp3=>?_
  rw [cutV_from (by omega)]
  have s3:=s2.new hp3 (o:=.lst (xs.drop k))
  refine ⟨p3,R.drop k,rfl,⟨_,SqL.here,?_⟩,hc _ _ ?_⟩
  · have:=hp.drop k
    rw [← List.map_drop] at this
    exact this.same s3
  clear hc c1
  rw [high_drop h1 h2]
  generalize upd H2 p3 _ = H3 at s3 ⊢
  have hlen:=O.lens m
  have hok:=O.okLH m
  have hMk:=O.marksOk m
  generalize elo:lowN R m = lo at hlen hok hMk ⊢
  generalize ehi:highN R m = hi at hlen hok hMk ⊢
  have ek:[oV lo,oV hi] = [kO lo,kO hi].map kV:=by simp [kO_V]
  refine seq_any fun c1 hc=>?_
  suffices main:∀ H5 kvs5 s n w,Keeps [d] H H5→H5 d = some (.dT kvs5)→StemsD L kvs5→kvs5.length ≤ kvs.length + 1→valV kvs5 [kO lo,kO hi] = some (strV s)→Stem L lo hi n w s→
      c1 [some (.int L),some (.ref p),some (.str (txt m)),some (.ref d),some (.int k),some (oV lo),some (oV hi)] H5 by
    and_intros
    refine ⟨by decide,fun t ht=>?_⟩
    have s4:=s3.new ht (o:=.tup [oV lo,oV hi])
    have hT:(upd H3 t (.tup [oV lo,oV hi])) t = some (.tup ([kO lo,kO hi].map kV)):=by rw [← ek]; exact upd_same
    generalize upd H3 t _ = H4 at s4 hT ⊢
    have hd4:=s4 _ _ hd
    refine ⟨d,valV kvs [kO lo,kO hi],rfl,DGet.t hd4 hT,_,rfl,?_⟩
    cases ev:valV kvs [kO lo,kO hi] with
    | some v=>
      obtain ⟨n,w,s,rfl,S⟩:=hst _ _ _ ev
      rw [if_neg (by simp)]
      exact main H4 kvs s n w (Keeps.of_same s4) hd4 hst (by omega) ev S
    | none=>
      rw [if_pos (by simp)]
      simp? [sDPut]
      refine ⟨L,lo,hi,rfl,hL,hL26,hMk,fun _ H5 n w s s5 S=>?_,fun no=>absurd hok no⟩
      refine ⟨by decide,fun t2 ht2=>?_⟩
      have s6:=(s4.trans s5).new ht2 (o:=.tup [oV lo,oV hi])
      have hT2:(upd H5 t2 (.tup [oV lo,oV hi])) t2 = some (.tup ([kO lo,kO hi].map kV)):=by rw [← ek]; exact upd_same
      generalize upd H5 t2 _ = H6 at s6 hT2 ⊢
      refine ⟨_,DPut.t (s6 _ _ hd) hT2 (by rw [sizeLine_eq]; omega),?_⟩
      exact main _ _ s n w ((Keeps.of_same s6).upd (.inl List.mem_cons_self)) upd_same (hst.put S) (length_putK _ _ _) (by rw [valV_put,if_pos rfl]; rfl) S
  intro H5 kvs5 s n w k5 hd5 st5 len5 ev5 S
  refine hc _ _ ?_
  clear hc c1
  simp? [tDGet]
  refine ⟨by decide,fun t ht=>?_⟩
  have hT:(upd H5 t (.tup [oV lo,oV hi])) t = some (.tup ([kO lo,kO hi].map kV)):=by rw [← ek]; exact upd_same
  have ne:d ≠ t:=fun z=>by subst z; rw [hd5] at ht; cases ht
  have hd6:(upd H5 t (.tup [oV lo,oV hi])) d = some (.dT kvs5):=by rw [upd_ne ne]; exact hd5
  have k6:Keeps [d] H (upd H5 t (.tup [oV lo,oV hi])):=k5.upd (.inr ht)
  generalize upd H5 t _ = H6 at hT hd6 k6 ⊢
  refine ⟨strV s,by rw [← ev5]; exact DGet.t hd6 hT,?_⟩
  obtain ⟨_,b2,_,b4,_⟩:=S.all hL hMk hok
  have hz:s.length ≤ 501:=by rw [b2]; omega
  refine addS_go (by omega) ?_
  exact q H6 (some (s ++ m)) kvs5 k6 hd6 st5 len5 (.inr ⟨hno,n,w,s,by rw [elo,ehi]; exact S,rfl⟩)
def thD (kvs:List (List Nat × List Nat)):List (Key × V):=kvs.map fun kv=>(Key.inr (txt kv.1),strV kv.2)
theorem thD_eq (kvs:List (List Nat × List Nat)):thD kvs = (kvs.map fun kv=>(kv.1,strV kv.2)).map fun kv=>(Key.inr (txt kv.1),kv.2):=by
  unfold thD; rw [List.map_map]; rfl
theorem nodup_len:∀ {ks ms:List (List Nat)},ks.Nodup→(∀ m ∈ ks,m ∈ ms)→ks.length ≤ ms.length
  | [],_,_,_=>Nat.zero_le _
  | k :: ks,ms,h,s=>by
    obtain ⟨h1,h2⟩:=List.nodup_cons.mp h
    have hk:=s k List.mem_cons_self
    have:=nodup_len (ms:=ms.erase k) h2 fun m hm=>(List.mem_erase_of_ne (fun z=>h1 (by rw [← z]; exact hm))).mpr (s m (List.mem_cons_of_mem _ hm))
    rw [List.length_erase_of_mem hk] at this
    have hp:0 < ms.length:=List.length_pos_of_mem hk
    rw [List.length_cons]
    omega
theorem val_th (m:List Nat):∀ kvs:List (List Nat × List Nat),¬ m ∈ kvs.map (·.1)→valV (thD kvs) (Key.inr (txt m)) = none
  | [],_=>by simp [thD,valV_nil]
  | k :: kvs,h=>by
    show valV ((Key.inr (txt k.1),strV k.2) :: thD kvs) _ = _
    rw [valV_neg (fun z=>h (by have e:k.1 = m:=txt_inj.mp (by injection z); rw [← e]; simp))]
    exact val_th m kvs fun z=>h (List.mem_cons_of_mem _ z)
def RowsC (H:Hp):List Addr→List (List RwN)→Prop
  | [],[]=>True
  | a :: as,r :: R=>(∃ xs,H a = some (.lst xs)∧Prs H xs (r.map rowP))∧RowsC H as R
  | _,_=>False
theorem RowsC.same {H H':Hp} (s:Same H H'):∀ {as:List Addr} {R:List (List RwN)},RowsC H as R→RowsC H' as R
  | [],[],_=>trivial
  | [],_ :: _,h=>h.elim
  | _ :: _,[],h=>h.elim
  | _ :: _,_ :: _,⟨⟨xs,e,p⟩,r⟩=>⟨⟨xs,s _ _ e,p.same s⟩,RowsC.same s r⟩
theorem RowsC.len {H:Hp}:∀ {as:List Addr} {R:List (List RwN)},RowsC H as R→as.length = R.length
  | [],[],_=>rfl
  | [],_ :: _,h=>h.elim
  | _ :: _,[],h=>h.elim
  | _ :: _,_ :: _,⟨_,r⟩=>by rw [List.length_cons,List.length_cons,RowsC.len r]
theorem RowsC.app {H:Hp}:∀ {as:List Addr} {R:List (List RwN)} {bs:List Addr} {S:List (List RwN)},RowsC H as R→RowsC H bs S→RowsC H (as ++ bs) (R ++ S)
  | [],[],_,_,_,h=>h
  | [],_ :: _,_,_,h,_=>h.elim
  | _ :: _,[],_,_,h,_=>h.elim
  | _ :: _,_ :: _,_,_,⟨a,r⟩,h=>⟨a,RowsC.app r h⟩
theorem RowsC.get {H:Hp}:∀ {as:List Addr} {R:List (List RwN)} {i:Nat} {a:Addr},RowsC H as R→as[i]? = some a→∃ r xs,R[i]? = some r∧H a = some (.lst xs)∧Prs H xs (r.map rowP)
  | [],_,_,_,_,e=>by simp at e
  | _ :: _,[],_,_,h,_=>h.elim
  | _ :: _,r :: _,0,_,⟨⟨xs,h,p⟩,_⟩,e=>by
    have:_ = _:=Option.some.inj e
    subst this
    exact ⟨r,xs,rfl,h,p⟩
  | _ :: _,_ :: _,i + 1,_,⟨_,r⟩,e=>by
    obtain ⟨p,t,a,b,c⟩:=RowsC.get r (i:=i) (by simpa using e)
    exact ⟨p,t,by simpa using a,b,c⟩
def stP (z:List Nat × List Nat):V × V:=(strV z.1,strV z.2)
structure StA (H:Hp) (p p1 p2 p3:Addr) (bs:List Addr) (ts:List V) (L h:Nat) (R:List (List RwN)) (zs:List (List Nat × List Nat)) (ws:List (List Nat)):Prop where
  top:H p = some (.tup [.int L,.int h,.ref p1,.ref p2,.ref p3])
  ren:H p1 = some (.lst (bs.map V.ref))
  row:RowsC H bs R
  thi:H p2 = some (.lst ts)
  prs:Prs H ts (zs.map stP)
  tak:H p3 = some (.lst (ws.map strV))
theorem StA.same {H H':Hp} {p p1 p2 p3:Addr} {bs:List Addr} {ts:List V} {L h:Nat} {R:List (List RwN)} {zs:List (List Nat × List Nat)} {ws:List (List Nat)} (A:StA H p p1 p2 p3 bs ts L h R zs ws) (s:Same H H'):StA H' p p1 p2 p3 bs ts L h R zs ws:=
  ⟨s _ _ A.top,s _ _ A.ren,A.row.same s,s _ _ A.thi,A.prs.same s,s _ _ A.tak⟩
def spStateOf:Sp:=fun vs H Q _=>∃ (L h:Nat) (pr pt pk:Addr) (as:List Addr) (R:List (List RwN)) (ts:List V) (zs:List (List Nat × List Nat)) (ws:List (List Nat)),vs = [.int L,.int h,.ref pr,.ref pt,.ref pk]∧H pr = some (.lst (as.map V.ref))∧RowsC H as R∧H pt = some (.lst ts)∧Prs H ts (zs.map stP)∧H pk = some (.lst (ws.map strV))∧R.length ≤ 10000∧
  ∀ H' p p1 p2 p3 bs,Same H H'→StA H' p p1 p2 p3 bs ts L h R zs ws→(p :: p1 :: p2 :: p3 :: bs).Nodup→(∀ b ∈ p :: p1 :: p2 :: p3 :: bs,H b = none)→Q (.ref p) H'
def rdStateOf (K:PySem.W.Frag):TS:=
    tRet (tTup (tCons (tVar 0) (tCons (tVar 1) (tCons (tComp (iList K (tVar 2)) [] tYes (tCB (rListOf K) (tCons (tVar 0) tNil))) (tCons (tCB (rListOf K) (tCons (tVar 3) tNil)) (tCons (tCB (rListOf K) (tCons (tVar 4) tNil)) tNil))))))
theorem Same.free1 {H H':Hp} (s:Same H H') {p:Addr} (h:H' p = none):H p = none:=by
  cases w:H p with
  | none=>rfl
  | some o=>rw [s p o w] at h; cases h
def SOInv (H:Hp) (R:List (List RwN)):Nat→List V→Hp→Prop:=fun i ys H'=>Same H H'∧∃ bs:List Addr,ys = bs.map V.ref∧RowsC H' bs (R.take i)∧bs.Nodup∧(∀ b ∈ bs,H b = none)∧bs.length ≤ i
theorem read_stateOf {K:PySem.W.Frag} {N:List Str} {vs:List V} {H:Hp} {Q:VK} {E:XK} (hN:N.length = 5) (h:spStateOf vs H Q E):rdStateOf K { nx:=fun _ H'=>Q .non H',rt:=Q } (L2.start N vs) H:=by
  obtain ⟨L,h,pr,pt,pk,as,R,ts,zs,ws,rfl,hr,hR,ht,hz,hw,hl,q⟩:=h
  have al:=hR.len
  unfold rdStateOf L2.start
  rw [hN]
  and_intros
  refine comp_l (a:=pr) (xs:=as.map V.ref) (fun Q h=>⟨_,rfl,h⟩) (SqL.of hr) (SOInv H R) ⟨Same.refl _,[],rfl,trivial,List.nodup_nil,fun b hb=>(nomatch hb),Nat.zero_le _⟩ ?_ (by rw [List.length_map,sizeLine_eq]; omega) ?_ ?_
  · rintro i ys H' _ ⟨s,bs,rfl,_,_,_,hbl⟩
    exact ⟨SqL.of (s _ _ hr),by rw [List.length_map]; exact hbl⟩
  · rintro i v ys H' hv ⟨s,bs,rfl,hrows,hnd,hfr,hbl⟩ W hW
    rw [List.getElem?_map] at hv
    obtain ⟨a,ha,rfl⟩:=Option.map_eq_some_iff.mp hv
    obtain ⟨r,xs,er,hx,px⟩:=(hR.same s).get ha
    and_intros
    refine ⟨a,xs,rfl,.inl (SqL.of hx),fun l hl=>?_⟩
    have e:R.take (i + 1) = R.take i ++ [r]:=by rw [List.take_add_one,er]; rfl
    have s2:=Same.up H' hl (o:=.lst xs)
    have:=hW (bs.map V.ref ++ [.ref l]) (upd H' l (.lst xs)) ⟨s.trans s2,bs ++ [l],by rw [List.map_append]; rfl,by rw [e]; exact (hrows.same s2).app ⟨⟨xs,upd_same,px.same s2⟩,trivial⟩,?_,fun b hb=>?_,by rw [List.length_append]; simp; omega⟩
    · exact this
    · rw [List.nodup_append]
      exact ⟨hnd,by simp,fun b hb c hc=>by
        rw [List.mem_singleton.mp hc]
        intro z
        subst z
        obtain ⟨j,hj⟩:=List.getElem?_of_mem hb
        obtain ⟨_,_,_,w,_⟩:=hrows.get hj
        rw [w] at hl; cases hl⟩
    · rcases List.mem_append.mp hb with hb | hb
      · exact hfr b hb
      · rw [List.mem_singleton.mp hb]; exact s.free1 hl
  · rintro ys H1 ⟨s,bs,rfl,hrows,hnd,hfr,hbl⟩ p1 hp1
    rw [List.length_map,al,List.take_length] at hrows
    have nb1:¬ p1 ∈ bs:=fun hb=>by
      obtain ⟨j,hj⟩:=List.getElem?_of_mem hb
      obtain ⟨_,_,_,w,_⟩:=hrows.get hj
      rw [w] at hp1; cases hp1
    have s1:=s.new hp1 (o:=.lst (bs.map V.ref))
    have r1:=hrows.same (Same.up H1 hp1 (o:=.lst (bs.map V.ref)))
    have e1:(upd H1 p1 (.lst (bs.map V.ref))) p1 = some (.lst (bs.map V.ref)):=upd_same
    have f1:=s.free1 hp1
    generalize upd H1 p1 _ = H2 at s1 r1 e1 ⊢
    refine ⟨pt,ts,rfl,.inl (SqL.of (s1 _ _ ht)),fun p2 hp2=>⟨pk,ws.map strV,rfl,.inl (SqL.of ((s1.new hp2) _ _ hw)),fun p3 hp3=>⟨by decide,fun p hp=>?_⟩⟩⟩
    have f2:=s1.free1 hp2
    have nb2:¬ p2 ∈ bs:=fun hb=>by
      obtain ⟨j,hj⟩:=List.getElem?_of_mem hb
      obtain ⟨_,_,_,w,_⟩:=r1.get hj
      rw [w] at hp2; cases hp2
    have n12:p1 ≠ p2:=fun z=>by subst z; rw [e1] at hp2; cases hp2
    have s2:=Same.up H2 hp2 (o:=.lst ts)
    have e2:(upd H2 p2 (.lst ts)) p2 = some (.lst ts):=upd_same
    generalize upd H2 p2 _ = H3 at s2 e2 hp3 hp ⊢
    have r2:=r1.same s2
    have f3:=(s1.trans s2).free1 hp3
    have nb3:¬ p3 ∈ bs:=fun hb=>by
      obtain ⟨j,hj⟩:=List.getElem?_of_mem hb
      obtain ⟨_,_,_,w,_⟩:=r2.get hj
      rw [w] at hp3; cases hp3
    have n13:p1 ≠ p3:=fun z=>by subst z; rw [s2 _ _ e1] at hp3; cases hp3
    have n23:p2 ≠ p3:=fun z=>by subst z; rw [e2] at hp3; cases hp3
    have s3:=Same.up H3 hp3 (o:=.lst (ws.map strV))
    have e3:(upd H3 p3 (.lst (ws.map strV))) p3 = some (.lst (ws.map strV)):=upd_same
    generalize upd H3 p3 _ = H4 at s3 e3 hp ⊢
    have r3:=r2.same s3
    have f4:=((s1.trans s2).trans s3).free1 hp
    have nb4:¬ p ∈ bs:=fun hb=>by
      obtain ⟨j,hj⟩:=List.getElem?_of_mem hb
      obtain ⟨_,_,_,w,_⟩:=r3.get hj
      rw [w] at hp; cases hp
    have n1:p ≠ p1:=fun z=>by subst z; rw [s3 _ _ (s2 _ _ e1)] at hp; cases hp
    have n2:p ≠ p2:=fun z=>by subst z; rw [s3 _ _ e2] at hp; cases hp
    have n3:p ≠ p3:=fun z=>by subst z; rw [e3] at hp; cases hp
    have s4:=Same.up H4 hp (o:=.tup [.int L,.int h,.ref p1,.ref p2,.ref p3])
    have sa:=((s1.trans s2).trans s3).trans s4
    refine q _ p p1 p2 p3 bs sa ⟨upd_same,s4 _ _ (s3 _ _ (s2 _ _ e1)),r3.same s4,s4 _ _ (s3 _ _ e2),hz.same sa,s4 _ _ e3⟩ ?_ ?_
    · simp only [List.nodup_cons,List.mem_cons,not_or]
      exact ⟨⟨n1,n2,n3,nb4⟩,⟨n12,n13,nb1⟩,⟨n23,nb2⟩,nb3,hnd⟩
    · intro b hb
      simp only [List.mem_cons] at hb
      rcases hb with rfl | rfl | rfl | rfl | hb
      · exact f4
      · exact f1
      · exact f2
      · exact f3
      · exact hfr b hb
theorem prs_of {H:Hp}:∀ {ys:List V} {zs:List (List Nat × List Nat)},ys.length = zs.length→(∀ (i:Nat) kv,zs[i]? = some kv→∃ t,ys[i]? = some (.ref t)∧H t = some (.tup [strV kv.1,strV kv.2]))→Prs H ys (zs.map stP)
  | [],[],_,_=>trivial
  | [],_ :: _,h,_=>by simp at h
  | _ :: _,[],h,_=>by simp at h
  | y :: ys,z :: zs,h,k=>by
    obtain ⟨t,e,ht⟩:=k 0 z rfl
    refine ⟨⟨t,Option.some.inj e,ht⟩,prs_of (by simpa using h) fun i kv e=>?_⟩
    obtain ⟨t,e,ht⟩:=k (i + 1) kv (by simpa using e)
    exact ⟨t,by simpa using e,ht⟩
def rowsD (R:List (List RwN)):List PyData:=R.map fun r=>.list (pairD (r.map rowP))
def stD (L h:Nat) (R:List (List RwN)) (zs:List (List Nat × List Nat)) (ws:List (List Nat)):PyData:=.tuple [.int L,.int h,.list (rowsD R),.list (pairD (zs.map stP)),.list ((ws.map txt).map PyData.str)]
structure StOk (R:List (List RwN)) (zs:List (List Nat × List Nat)) (ws:List (List Nat)):Prop where
  rows:∀ r ∈ R,∀ y ∈ r,PyData.strOk (txt y.1) = true∧∀ z,y.2 = some z→PyData.strOk (txt z) = true
  things:∀ z ∈ zs,PyData.strOk (txt z.1) = true∧PyData.strOk (txt z.2) = true
  taken:∀ w ∈ ws,PyData.strOk (txt w) = true
theorem row_ok {r:List RwN} (h:∀ y ∈ r,PyData.strOk (txt y.1) = true∧∀ z,y.2 = some z→PyData.strOk (txt z) = true):∀ p ∈ r.map rowP,OkV p.1∧OkV p.2:=fun p hp=>by
  obtain ⟨y,hy,rfl⟩:=List.mem_map.mp hp
  obtain ⟨a,b⟩:=h y hy
  refine ⟨.str a,?_⟩
  show OkV (oV y.2)
  cases e:y.2 with
  | none=>exact .non
  | some z=>exact .str (b z e)
theorem thing_ok {zs:List (List Nat × List Nat)} (h:∀ z ∈ zs,PyData.strOk (txt z.1) = true∧PyData.strOk (txt z.2) = true):∀ p ∈ zs.map stP,OkV p.1∧OkV p.2:=fun p hp=>by
  obtain ⟨z,hz,rfl⟩:=List.mem_map.mp hp
  exact ⟨.str (h z hz).1,.str (h z hz).2⟩
theorem RowsC.dat {K:PySem.W.Frag} {H:Hp}:∀ {as:List Addr} {R:List (List RwN)},RowsC H as R→(∀ r ∈ R,∀ y ∈ r,PyData.strOk (txt y.1) = true∧∀ z,y.2 = some z→PyData.strOk (txt z) = true)→DatAll K H (as.map V.ref) (rowsD R)
  | [],[],_,_=>.nil
  | [],_ :: _,h,_=>h.elim
  | _ :: _,[],h,_=>h.elim
  | _ :: _,r :: _,⟨⟨xs,e,p⟩,t⟩,ok=>.cons (.lst (SqL.of e) (p.dat (row_ok (ok r List.mem_cons_self)))) (RowsC.dat t fun q hq=>ok q (List.mem_cons_of_mem _ hq))
theorem dat_strsH {K:PySem.W.Frag} {H:Hp}:∀ ms:List (List Nat),DatAll K H (ms.map strV) ((ms.map txt).map PyData.str)
  | []=>.nil
  | m :: ms=>.cons (.str _) (dat_strsH ms)
theorem StA.dat {K:PySem.W.Frag} {H:Hp} {p p1 p2 p3:Addr} {bs:List Addr} {ts:List V} {L h:Nat} {R:List (List RwN)} {zs:List (List Nat × List Nat)} {ws:List (List Nat)} (A:StA H p p1 p2 p3 bs ts L h R zs ws) (ok:StOk R zs ws):Dat K H (.ref p) (stD L h R zs ws):=
  .tup (SqT.of A.top) (.cons (.int _) (.cons (.int _) (.cons (.lst (SqL.of A.ren) (A.row.dat ok.rows)) (.cons (.lst (SqL.of A.thi) (A.prs.dat (thing_ok ok.things))) (.cons (.lst (SqL.of A.tak) (dat_strsH ws)) .nil)))))
theorem lay_rows:∀ {R:List (List RwN)},(∀ r ∈ R,∀ y ∈ r,PyData.strOk (txt y.1) = true∧∀ z,y.2 = some z→PyData.strOk (txt z) = true)→PyData.canLayAll0 (rowsD R) = true∧PyData.depthAll (rowsD R) ≤ 2
  | [],_=>⟨by simp [rowsD,PyData.canLayAll0],by simp [rowsD,PyData.depthAll]⟩
  | r :: R,ok=>by
    obtain ⟨a,b⟩:=lay_rows (R:=R) fun q hq=>ok q (List.mem_cons_of_mem _ hq)
    obtain ⟨c,d⟩:=lay_pairs (row_ok (ok r List.mem_cons_self))
    have e:rowsD (r :: R) = .list (pairD (r.map rowP)) :: rowsD R:=rfl
    rw [e]
    refine ⟨by simp [PyData.canLayAll0,PyData.canLay0,a,c],?_⟩
    simp only [PyData.depthAll,PyData.depth]
    omega
theorem shaped_st {L h:Nat} {R:List (List RwN)} {zs:List (List Nat × List Nat)} {ws:List (List Nat)} (ok:StOk R zs ws):SeqAt.shaped (stD L h R zs ws) = true:=by
  obtain ⟨a,b⟩:=lay_rows ok.rows
  obtain ⟨c,d⟩:=lay_pairs (thing_ok ok.things)
  have o2:∀ y ∈ ws.map txt,PyData.strOk y = true:=fun y hy=>by obtain ⟨z,hz,rfl⟩:=List.mem_map.mp hy; exact ok.taken z hz
  unfold SeqAt.shaped stD
  rw [Bool.and_eq_true]
  have cl:=canLay_strs _ o2
  have dl:=depth_strs (ws.map txt)
  generalize (ws.map txt).map PyData.str = D2 at cl dl ⊢
  refine ⟨by simp [PyData.canLay0,PyData.canLayAll0,a,c,cl],?_⟩
  rw [decide_eq_true_eq]
  simp only [PyData.depth,PyData.depthAll,dl]
  omega
theorem eq_states {K:PySem.W.Frag} {H:Hp} {p p1 p2 p3 q q1 q2 q3:Addr} {bs cs:List Addr} {ts us:List V} {L h:Nat} {R:List (List RwN)} {zs:List (List Nat × List Nat)} {ws:List (List Nat)} {Q:VK} (A:StA H p p1 p2 p3 bs ts L h R zs ws) (B:StA H q q1 q2 q3 cs us L h R zs ws) (ok:StOk R zs ws) (r:Q (.bl true) H):rEqD K (.ref p) (.ref q) H Q:=by
  refine ⟨_,_,A.dat ok,B.dat ok,shaped_st ok,shaped_st ok,?_⟩
  rw [SeqAt.eqv_refl _ (SeqAt.canLay_of_shaped (shaped_st ok))]
  exact r
theorem ne_states {K:PySem.W.Frag} {H:Hp} {p p1 p2 p3 q q1 q2 q3:Addr} {bs cs:List Addr} {ts us:List V} {L h:Nat} {R:List (List RwN)} {zs:List (List Nat × List Nat)} {ws:List (List Nat)} {Q:VK} (A:StA H p p1 p2 p3 bs ts L h R zs ws) (B:StA H q q1 q2 q3 cs us L h R zs ws) (ok:StOk R zs ws) (r:Q (.bl false) H):rNeD K (.ref p) (.ref q) H Q:=by
  refine ⟨_,_,A.dat ok,B.dat ok,shaped_st ok,shaped_st ok,?_⟩
  rw [SeqAt.eqv_refl _ (SeqAt.canLay_of_shaped (shaped_st ok))]
  exact r
theorem sorted_one {as bs:List (List Nat)} (p:as.Perm bs) (h1:as.Pairwise (· < ·)) (h2:bs.Pairwise (· < ·)):as = bs:=
  p.eq_of_pairwise (fun a b _ _ h g=>absurd (List.lt_trans h g) (List.lt_irrefl a)) h1 h2
theorem lt_three (a b:List Nat):a < b ∨ a = b ∨ b < a:=by
  by_cases h:a < b
  · exact .inl h
  by_cases g:b < a
  · exact .inr (.inr g)
  · exact .inr (.inl (List.le_antisymm (List.not_lt.mp g) (List.not_lt.mp h)))
theorem nodup_up {l:List (List Nat)} (h:l.Pairwise (· < ·)):l.Nodup:=h.imp fun g z=>by subst z; exact List.lt_irrefl _ g
theorem seq_cset {wi:TI} {fs:List Nat} {tt:TT} {te:TE} {i:Nat} {C:TS} {D:Ends} {σ:St} {H:Hp} (h:∀ c:V→Hp→Prop,(∀ x H1,C D (σ.set i (some x)) H1→c x H1)→tComp wi fs tt te σ H c):tSeq (tCompSet i wi fs tt te) C D σ H:=h _ fun _ _ z=>z
def rdLWhole2 (K:PySem.W.Frag):TS:=
    tSeq (tAsg (tC (.int 0)) (gName 3))
      (tSeq (tFor (iRng1 (tCons (tVar 2) tNil)) (gName 4) (tSeq (tAsg (tOp rMulI (tVar 3) (tVar 0)) (gName 3))
      (tIfS (tTest (tOp rLtI (tVar 4) (tCB rLenS (tCons (tVar 1) tNil)))) (tAsg (tOp rAddI (tVar 3) (tBM K "str" rIndex (tC (.str (txt ABC))) (tCons (tOp rIxStr (tVar 1) (tVar 4)) tNil))) (gName 3)) (tNext))))
      (tRet (tVar 3)))
theorem read_lwhole2 {K:PySem.W.Frag} {N:List Str} {vs:List V} {H:Hp} {Q:VK} {E:XK} (hN:N.length = 5) (h:spLWhole vs H Q E):rdLWhole2 K { nx:=fun _ H'=>Q .non H',rt:=Q } (L2.start N vs) H:=by
  obtain ⟨L,l,n,rfl,hL,hl,hz,hn,q⟩:=h
  unfold rdLWhole2 L2.start
  rw [hN]
  and_intros
  refine for_r1 (j:=n) (fun Q h=>⟨_,rfl,h⟩) (by omega) (by omega) (fun i σ H'=>H' = H∧∃ v4,σ = [some (.int L),some (.str (txt l)),some (.int n),some (.int (val L l i:Nat)),v4]) ⟨rfl,_,by rw [val_zero]; rfl⟩ ?_ ?_
  · rintro i σ H1 hi ⟨rfl,v4,rfl⟩
    and_intros
    refine ⟨mulB_r (by omega) (by omega),lenS_go hz ⟨_,rfl,?_⟩⟩
    by_cases hi2:i < l.length
    · rw [if_pos (by omega)]
      have hc:=hl l[i] (List.getElem_mem hi2)
      refine ⟨rfl,ixS_go hz (by omega) (by simp [hi2]) (idxABC_go hc.1 hc.2 ⟨_,rfl,rfl,some (.int i),?_⟩)⟩
      rw [val_succ,Int.natCast_add,Int.natCast_mul]
      simp [fig,hi2]
    · rw [if_neg (by omega)]
      refine ⟨rfl,some (.int i),?_⟩
      rw [val_succ,Int.natCast_add,Int.natCast_mul]
      simp [fig,List.getElem?_eq_none (Nat.le_of_not_lt hi2)]
  · rintro σ H1 ⟨rfl,v4,rfl⟩
    and_intros
    rw [Int.toNat_natCast]
    exact q
def numsH (L h j:Nat) (lo hi:Option (List Nat)) (n:Nat):List Nat:=(List.range' (loN L lo n) (hiN L hi n - loN L lo n)).filter (ow L (endsL L h j))
def spLSome:Sp:=fun vs H Q _=>∃ (L h j:Nat) (lo hi:Option (List Nat)) (n:Nat),vs = [.int L,.int h,.int j,oV lo,oV hi,.int n]∧Hands L h j∧MarksOk L lo hi∧n ≤ 2000∧hiN L hi n ≤ loN L lo n + 90000∧∀ H' p,Same H H'→H p = none→H' p = some (.lst ((numsH L h j lo hi n).map fun w=>.int (w:Nat)))→Q (.ref p) H'
def rdLSome (K:PySem.W.Frag):TS:=
    tSeq (tAsg (tC (.int 1)) (gName 6))
      (tSeq (tFor (iRng1 (tCons (tVar 5) tNil)) (gName 7) (tAsg (tOp rMulI (tVar 6) (tVar 0)) (gName 6)))
      (tSeq (tAsg (tOp rSubI (tVar 6) (tC (.int 1))) (gName 6))
      (tSeq (tAsg (tC (.int 1)) (gName 8))
      (tSeq (tIfS (tB (tNotN (tVar 3))) (tAsg (tOp rAddI (tCall spLWhole [] E0 (tCons (tVar 0) (tCons (tVar 3) (tCons (tVar 5) tNil)))) (tC (.int 1))) (gName 8)) (tNext))
      (tSeq (tIfS (tB (tNotN (tVar 4))) (tAsg (tOp rSubI (tCall spLWhole [] E0 (tCons (tVar 0) (tCons (tVar 4) (tCons (tVar 5) tNil)))) (tCB rInt1 (tCons (tOp rLeI (tCB rLenS (tCons (tVar 4) tNil)) (tVar 5)) tNil))) (gName 6)) (tNext))
      (tSeq (tAsg (tLst tNil) (gName 9))
      (tSeq (tFor (iRng2B (tCons (tVar 8) (tCons (tOp rAddI (tVar 6) (tC (.int 1))) tNil))) (gName 10) (tIfS (tAnd (tTest (tOp rGtI (tOp rModI (tVar 10) (tVar 0)) (tC (.int 0)))) (tTest (tOp rEq (tOp rModI (tOp rSubI (tOp rModI (tVar 10) (tVar 0)) (tC (.int 1))) (tVar 1)) (tVar 2)))) (tDrop (tBM K "list" rAppend (tVar 9) (tCons (tVar 10) tNil))) (tNext)))
      (tRet (tVar 9)))))))))
def SomeInv (L h j:Nat) (lo hi:Option (List Nat)) (n:Nat) (p:Addr) (v6 v7:Option V) (H:Hp):Nat→St→Hp→Prop:=fun i σ H'=>∃ v10,Keeps [p] H H'∧H' p = some (.lst (((List.range' (loN L lo n) i).filter (ow L (endsL L h j))).map fun w=>.int (w:Nat)))∧
  σ = [some (.int L),some (.int h),some (.int j),some (oV lo),some (oV hi),some (.int n),v6,v7,some (.int (loN L lo n:Nat)),some (.ref p),v10]
theorem read_lsome {K:PySem.W.Frag} {N:List Str} {vs:List V} {H:Hp} {Q:VK} {E:XK} (hN:N.length = 11) (h:spLSome vs H Q E):rdLSome K { nx:=fun _ H'=>Q .non H',rt:=Q } (L2.start N vs) H:=by
  obtain ⟨L,h,j,lo,hi,n,rfl,D,M,hn,hw,q⟩:=h
  have hL26:=D.l26
  have hL2:=D.l2
  have hlen:=M.lens
  unfold rdLSome L2.start
  rw [hN]
  refine seq_set fun c hc=>?_
  and_intros
  refine hc _ _ ?_
  clear hc c
  simp only [List.set_cons_zero,List.set_cons_succ,List.replicate_succ,List.replicate_zero,List.map_cons,List.map_nil,List.cons_append,List.nil_append]
  refine seq_any fun c hc=>?_
  refine for_r1 (j:=n) (fun Q h=>by and_intros; exact h) (by omega) (by omega) (fun i σ H'=>H' = H∧∃ v7,σ = [some (.int L),some (.int h),some (.int j),some (oV lo),some (oV hi),some (.int n),some (.int (L ^ i:Nat)),v7,none,none,none]) ⟨rfl,_,rfl⟩ ?_ ?_
  · rintro i σ H1 hi ⟨rfl,v7,rfl⟩
    and_intros
    exact ⟨mulB_r (by omega) (by omega),some (.int i),by rw [Nat.pow_succ,Int.natCast_mul]⟩
  rintro σ H1 ⟨rfl,v7,rfl⟩
  rw [Int.toNat_natCast]
  refine hc _ _ ?_
  clear hc c
  refine seq_set fun c hc=>?_
  and_intros
  refine hc _ _ ?_
  clear hc c
  refine seq_set fun c hc=>?_
  and_intros
  refine hc _ _ ?_
  clear hc c
  simp only [List.set_cons_zero,List.set_cons_succ]
  refine seq_any fun c hc=>?_
  suffices main:c [some (.int L),some (.int h),some (.int j),some (oV lo),some (oV hi),some (.int n),some (.int ((L ^ n:Nat) - 1)),v7,some (.int (loN L lo n:Nat)),none,none] H1 by
    cases lo with
    | none=>
      simp? [oV]
      exact main
    | some l=>
      obtain ⟨ml,zl⟩:=M.mlo l rfl
      simp? [oV]
      exact ⟨L,l,n,rfl,hL26,ml.ls.mono hL26,by omega,by omega,_,rfl,main⟩
  refine hc _ _ ?_
  clear hc c
  refine seq_any fun c hc=>?_
  suffices main:c [some (.int L),some (.int h),some (.int j),some (oV lo),some (oV hi),some (.int n),some (.int ((hiN L hi n:Nat) - 1)),v7,some (.int (loN L lo n:Nat)),none,none] H1 by
    cases hi with
    | none=>
      simp? [oV]
      exact main
    | some u=>
      obtain ⟨mu,zu⟩:=M.mhi u rfl
      simp? [oV]
      refine ⟨L,u,n,rfl,hL26,mu.ls.mono hL26,by omega,by omega,?_⟩
      refine lenS_go (by omega) ⟨_,rfl,?_⟩
      refine .inr ⟨_,rfl,⟨_,rfl,?_⟩⟩
      have ea:hiN L (some u) n = if n < u.length then val L u n + 1 else val L u n:=rfl
      have e2:((hiN L (some u) n:Nat):Int) - 1 = ((val L u n:Nat):Int) - (if decide ((u.length:Int) ≤ (n:Int)) then 1 else 0):=by
        rw [ea]
        by_cases z:n < u.length
        · rw [if_pos z,decide_eq_false (show ¬ (u.length:Int) ≤ (n:Int) by omega)]
          simp
        · rw [if_neg z,decide_eq_true (show (u.length:Int) ≤ (n:Int) by omega)]
          simp
      rw [e2] at main
      exact ⟨_,rfl,main⟩
  refine hc _ _ ?_
  clear hc c
  refine seq_set fun c hc=>?_
  and_intros
  refine ⟨by decide,fun p hp=>hc _ _ ?_⟩
  clear hc c
  have s1:=Same.up H1 hp (o:=.lst [])
  have l1:(upd H1 p (.lst [])) p = some (.lst []):=upd_same
  generalize upd H1 p _ = H2 at s1 l1 ⊢
  have nosub:∀ b ∈ [p],H1 b = none:=fun b hb=>by rw [List.mem_singleton.mp hb]; exact hp
  simp only [List.set_cons_zero,List.set_cons_succ]
  refine seq_any fun c hc=>?_
  refine for_r2B (l:=(loN L lo n:Nat)) (j:=(hiN L hi n:Nat)) (fun Q h=>by
    and_intros
    rw [show ((hiN L hi n:Nat):Int) - 1 + 1 = ((hiN L hi n:Nat):Int) by omega]
    exact h) (SomeInv L h j lo hi n p _ v7 H2) ⟨none,fun b o e _=>e,l1,rfl⟩ ?_ ?_
  · rintro i σ H' hi' ⟨v10,k',l',rfl⟩
    have lenb:((List.range' (loN L lo n) i).filter (ow L (endsL L h j))).length ≤ i:=Nat.le_trans (List.length_filter_le _ _) (by rw [List.length_range']; exact Nat.le_refl _)
    have em:((loN L lo n:Nat):Int) + (i:Int) = ((loN L lo n + i:Nat):Int):=(Int.natCast_add _ _).symm
    rw [em]
    generalize hW:loN L lo n + i = W
    have own:=own_iff (h:=h) (j:=j) (show 0 < L by omega) W
    have e1:(W:Int) % (L:Int) = ((W % L:Nat):Int):=(Int.natCast_emod _ _).symm
    have rr:List.range' (loN L lo n) (i + 1) = List.range' (loN L lo n) i ++ [W]:=by
      rw [List.range'_concat,Nat.one_mul,hW]
    have hj:=D.hj
    have hh:=D.hh
    have no:ow L (endsL L h j) W ≠ true→SomeInv L h j lo hi n p (some (.int ((hiN L hi n:Nat) - 1))) v7 H2 (i + 1) [some (.int L),some (.int h),some (.int j),some (oV lo),some (oV hi),some (.int n),some (.int ((hiN L hi n:Nat) - 1)),v7,some (.int (loN L lo n:Nat)),some (.ref p),some (.int W)] H':=fun z=>⟨_,k',by rw [rr,List.filter_append,l']; simp [z],rfl⟩
    and_intros
    rw [e1]
    refine ⟨by omega,?_⟩
    by_cases z:(0:Int) < ((W % L:Nat):Int)
    · rw [if_pos z]
      have e2:(((W % L:Nat):Int) - 1) % (h:Int) = (((W % L - 1) % h:Nat):Int):=by
        rw [show ((W % L:Nat):Int) - 1 = ((W % L - 1:Nat):Int) by omega]
        exact (Int.natCast_emod _ _).symm
      rw [e2]
      refine ⟨by omega,by omega,rfl,?_⟩
      by_cases z2:(((W % L - 1) % h:Nat):Int) = (j:Int)
      · rw [if_pos z2]
        have yes:ow L (endsL L h j) W = true:=own.mpr ⟨by omega,by omega⟩
        refine ⟨.inl ⟨rfl,_,SqL.of l'⟩,append_go l' (by rw [List.length_map]; omega) ⟨_,k'.upd (.inl List.mem_cons_self),?_,rfl⟩⟩
        rw [upd_same,rr,List.filter_append,List.map_append]
        simp [yes]
      · rw [if_neg z2]
        exact no fun y=>z2 (by have:=(own.mp y).2; omega)
    · rw [if_neg z]
      exact no fun y=>z (by have:=(own.mp y).1; omega)
  · rintro σ H' ⟨v10,k',l',rfl⟩
    refine hc _ _ ?_
    and_intros
    rw [show (((hiN L hi n:Nat):Int) - ((loN L lo n:Nat):Int)).toNat = hiN L hi n - loN L lo n by omega] at l'
    exact q H' p (same_keep s1 k' nosub) hp l'
theorem few_one {L:Nat} {lo hi:Option (List Nat)} (hL26:L ≤ 26) (hL:0 < L) (M:MarksOk L lo hi):hiN L hi 1 ≤ loN L lo 1 + 90000:=by
  have:=ahead_le 1 hL M
  rw [Nat.pow_one] at this
  have e:hiN L hi 1 = aheadN hi (highO L hi 1) 1:=rfl
  omega
theorem thD_put {kvs:List (List Nat × List Nat)} {m:List Nat} (t:List Nat) (hm:¬ m ∈ kvs.map (·.1)):putK (thD kvs) (Key.inr (txt m)) (strV t) = thD (kvs ++ [(m,t)]):=by
  rw [putK_new _ (val_th m kvs hm)]
  unfold thD
  rw [List.map_append]
  rfl
def someT:List (List Nat):=[[97],[116,97,107,101,110],[114,101,110,101,119,97,108],[48],[122,57],[97,98,99,100,101,102,103,104,105,106,107,108],[98],[55]]
theorem someT_ok:∀ t ∈ someT,Thing t∧t.length ≤ 12:=by
  intro t ht
  simp only [someT,List.mem_cons,List.not_mem_nil,or_false] at ht
  rcases ht with rfl | rfl | rfl | rfl | rfl | rfl | rfl | rfl <;> exact ⟨⟨by decide,by decide,by decide⟩,by decide⟩
def spHThing (K:PySem.W.Frag):Sp:=fun vs H Q _=>∃ (a:Addr) (ns:List Int) (k:Int),vs = [.ref a,.int k]∧SqL K H a (ns.map V.int)∧ns.length ≤ 63∧0 ≤ k∧k ≤ 10000∧∀ H' t,Same H H'→Thing t→t.length ≤ 12→Q (.str (txt t)) H'
def rdHThing (K:PySem.W.Frag):TS:=
    tSeq (tAsg (tLst (tCons (tC (.str (txt [97]))) (tCons (tC (.str (txt [116,97,107,101,110]))) (tCons (tC (.str (txt [114,101,110,101,119,97,108]))) (tCons (tC (.str (txt [48]))) (tCons (tC (.str (txt [122,57]))) (tCons (tC (.str (txt [97,98,99,100,101,102,103,104,105,106,107,108]))) (tCons (tC (.str (txt [98]))) (tCons (tC (.str (txt [55]))) tNil))))))))) (gName 2))
      (tRet (tOp (rIxL K) (tVar 2) (tCall (spDraw K) [] E0 (tCons (tVar 0) (tCons (tVar 1) (tCons (tC (.int 8)) tNil))))))
theorem read_hthing {K:PySem.W.Frag} {N:List Str} {vs:List V} {H:Hp} {Q:VK} {E:XK} (hN:N.length = 3) (h:spHThing K vs H Q E):rdHThing K { nx:=fun _ H'=>Q .non H',rt:=Q } (L2.start N vs) H:=by
  obtain ⟨sc,ns,k,rfl,hS,hl,hk0,hk1,q⟩:=h
  unfold rdHThing L2.start
  rw [hN]
  refine seq_set fun c hc=>?_
  and_intros
  refine ⟨by decide,fun p hp=>hc _ _ ?_⟩
  clear hc c
  have s1:=Same.up (o:=HO.lst (someT.map strV)) H hp
  have l1:(upd H p (.lst (someT.map strV))) p = some (.lst (someT.map strV)):=upd_same
  show tRet _ _ _ (upd H p (.lst (someT.map strV)))
  generalize upd H p _ = H1 at s1 l1 ⊢
  and_intros
  refine ⟨sc,ns,_,_,rfl,s1.seq hS,hl,hk0,by omega,by decide,fun r h0 h1=>?_⟩
  obtain ⟨t,ht⟩:=some_at (l:=someT) (i:=r.toNat) (by simp only [someT,List.length_cons,List.length_nil]; omega)
  obtain ⟨b1,b2⟩:=someT_ok t (List.mem_of_getElem? ht)
  exact ixL_go (v:=strV t) (SqL.of l1) h0 (by rw [List.getElem?_map,ht]; rfl) (q _ t s1 b1 b2)
structure RowsT (L:Nat) (r:List RwN):Prop where
  few:r.length ≤ 60
  old:∀ y ∈ r,Mark L y.1∧y.1.length ≤ 500
  new:∀ y ∈ r,∀ z,y.2 = some z→Mark L z∧z.length ≤ 500
  oup:(r.map (·.1)).Pairwise (· < ·)
  nup:(r.filterMap (·.2)).Pairwise (· < ·)
theorem abcL {L:Nat} {i:Nat} (hL:L ≤ 26) (h:i < L):(ABC.take L)[i]? = some (97 + i):=by
  rw [List.getElem?_take,if_pos h]
  exact abc_at (by omega)
theorem ixABL_go {H:Hp} {L:Nat} {i:Int} {Q:VK} (hL:L ≤ 26) (h0:0 ≤ i) (h1:i < L) (q:Q (.str (txt [97 + i.toNat])) H):rIxStr (.str (txt (ABC.take L))) (.int i) H Q:=
  ixS_go (by rw [List.length_take]; omega) h0 (abcL hL (by omega)) q
def spTMarks (K:PySem.W.Frag):Sp:=fun vs H Q _=>∃ (a:Addr) (ns:List Int) (b:Int) (L n:Nat),vs = [.ref a,.int b,.int L,.int n]∧SqL K H a (ns.map V.int)∧ns.length ≤ 63∧0 ≤ b∧b ≤ 10000∧2 ≤ L∧L ≤ 26∧n ≤ 40∧
  ∀ H' p (ms:List (List Nat)),Same H H'→H' p = none→(∀ m ∈ ms,Mark L m∧m.length ≤ 300)→ms.length ≤ n→ms.Pairwise (· < ·)→Q (.ref p) (upd H' p (.lst (ms.map strV)))
def rdTMarks (K:PySem.W.Frag):TS:=
    tSeq (tAsg (tSl rSlS (tC (.str (txt ABC))) tNoPart (tPart (tVar 2))) (gName 4))
      (tSeq (tAsg (tLst tNil) (gName 5))
      (tSeq (tFor (iRng1 (tCons (tVar 3) tNil)) (gName 6) (tSeq (tAsg (tCall (spDraw K) [] E0 (tCons (tVar 0) (tCons (tOp rAddI (tVar 1) (tOp rMulI (tC (.int 9)) (tVar 6))) (tCons (tC (.int 5)) tNil)))) (gName 7))
      (tSeq (tIfS (tTest (tOp rEq (tCall (spDraw K) [] E0 (tCons (tVar 0) (tCons (tOp rAddI (tOp rAddI (tVar 1) (tOp rMulI (tC (.int 9)) (tVar 6))) (tC (.int 1))) (tCons (tC (.int 40)) tNil)))) (tC (.int 0)))) (tAsg (tCall (spDraw K) [] E0 (tCons (tVar 0) (tCons (tOp rAddI (tVar 1) (tOp rMulI (tC (.int 9)) (tVar 6))) (tCons (tC (.int 300)) tNil)))) (gName 7)) (tNext))
      (tSeq (tAsg (tBM K "str" (rJoin K) (tC (.str (txt []))) (tCons (tComp (iRng1 (tCons (tVar 7) tNil)) [4,0,2,1,6] tYes (tOp rIxStr (tVar 1) (tCall (spDraw K) [] E0 (tCons (tVar 2) (tCons (tOp rAddI (tOp rAddI (tOp rAddI (tVar 4) (tOp rMulI (tC (.int 9)) (tVar 5))) (tC (.int 2))) (tVar 0)) (tCons (tVar 3) tNil)))))) tNil)) (gName 8))
      (tSeq (tAsg (tOp rAddS (tVar 8) (tOp rIxStr (tVar 4) (tOp rAddI (tC (.int 1)) (tCall (spDraw K) [] E0 (tCons (tVar 0) (tCons (tOp rAddI (tOp rAddI (tVar 1) (tOp rMulI (tC (.int 9)) (tVar 6))) (tC (.int 8))) (tCons (tOp rSubI (tVar 2) (tC (.int 1))) tNil))))))) (gName 8))
      (tIfS (tTest (tOp (rIn K true) (tVar 8) (tVar 5))) (tDrop (tBM K "list" rAppend (tVar 5) (tCons (tVar 8) tNil))) (tNext)))))))
      (tRet (tCB (rSortedS K) (tCons (tVar 5) tNil)))))
def TMInv (sc p:Addr) (b:Int) (L n:Nat) (H:Hp):Nat→St→Hp→Prop:=fun i σ H'=>∃ (ms:List (List Nat)) (v5 v6 v7:Option V),Same H H'∧H' p = some (.lst (ms.map strV))∧σ = [some (.ref sc),some (.int b),some (.int L),some (.int n),some (.str (txt (ABC.take L))),some (.ref p),v5,v6,v7]∧ms.Nodup∧(∀ m ∈ ms,Mark L m∧m.length ≤ 300)∧ms.length ≤ i
theorem read_tmarks {K:PySem.W.Frag} {N:List Str} {vs:List V} {H:Hp} {Q:VK} {E:XK} (hN:N.length = 9) (h:spTMarks K vs H Q E):rdTMarks K { nx:=fun _ H'=>Q .non H',rt:=Q } (L2.start N vs) H:=by
  obtain ⟨sc,ns,b,L,n,rfl,hS,hl,hb0,hb1,hL,hL26,hn,q⟩:=h
  unfold rdTMarks L2.start
  rw [hN]
  refine seq_set fun c hc=>?_
  and_intros
  refine slTo_go (by rw [abc_len]; decide) (by omega) (by rw [abc_len]; omega) (hc _ _ ?_)
  clear hc c
  rw [Int.toNat_natCast]
  simp only [List.set_cons_zero,List.set_cons_succ,List.replicate_succ,List.replicate_zero,List.map_cons,List.map_nil,List.cons_append,List.nil_append]
  refine seq_set fun c hc=>?_
  and_intros
  refine ⟨by decide,fun p hp=>hc _ _ ?_⟩
  clear hc c
  refine seq_any fun c hc=>?_
  simp? [List.set_cons_zero,List.set_cons_succ]
  refine for_r1 (j:=n) (fun Q h=>⟨_,rfl,h⟩) (by omega) (by omega) (TMInv sc p b L n H) ⟨[],_,_,_,Same.up _ hp,upd_same,rfl,List.nodup_nil,fun m h=>(nomatch h),Nat.le_refl _⟩ ?_ ?_
  · rintro i σ H1 hi ⟨ms,v5,v6,v7,s1,hM,rfl,nd,hm,hml⟩
    have hS1:=s1.seq hS
    refine seq_set fun c hc=>?_
    and_intros
    refine ⟨mulB_l (by decide) (by decide),sc,ns,_,_,rfl,hS1,hl,by omega,by omega,by decide,fun z hz0 hz1=>hc _ _ ?_⟩
    clear hc c
    refine seq_any fun c hc=>?_
    suffices main:∀ z:Int,0 ≤ z→z < 300→c [some (.ref sc),some (.int b),some (.int L),some (.int n),some (.str (txt (ABC.take L))),some (.ref p),some (.int i),some (.int z),v7] H1 by
      simp? [List.set_cons_zero,List.set_cons_succ]
      refine ⟨mulB_l (by decide) (by decide),sc,ns,_,_,rfl,hS1,hl,by omega,by omega,by decide,fun r h0 h1=>⟨rfl,?_⟩⟩
      by_cases e:V.int r = V.int 0
      · rw [if_pos e]
        exact ⟨mulB_l (by decide) (by decide),sc,ns,_,_,rfl,hS1,hl,by omega,by omega,by decide,fun z2 h20 h21=>main z2 h20 h21⟩
      · rw [if_neg e]
        exact main z hz0 (by omega)
    clear hz0 hz1 z
    intro z hz0 hz1
    refine hc _ _ ?_
    clear hc c
    refine seq_set fun c hc=>?_
    suffices main:∀ (H3:Hp) (t:List Nat),Same H1 H3→Ls L t→t.length ≤ 299→c (.str (txt t)) H3 by
      and_intros
      refine ⟨rfl,?_⟩
      refine comp_r1 (j:=z) (fun Q h=>⟨_,rfl,h⟩) (by omega) (by omega) (Nat.le_trans (show z.toNat ≤ 100000 by omega) (by decide))
        (fun i ys H'=>H' = H1∧∃ t:List Nat,ys = (t.map fun c=>strV [c])∧t.length = i∧Ls L t) ⟨rfl,[],rfl,rfl,Ls.nil L⟩
        (fun i ys H' _ p=>by obtain ⟨_,t,e,e2,_⟩:=p; rw [e,List.length_map,e2]; exact Nat.le_refl _) ?_ ?_
      · rintro j ys H' hj ⟨rfl,t,rfl,et,ht⟩ R hR
        and_intros
        refine ⟨mulB_l (by decide) (by decide),sc,ns,_,_,rfl,hS1,hl,by omega,by omega,by omega,fun r h0 h1=>?_⟩
        refine ixABL_go hL26 h0 (by omega) (hR _ _ ⟨rfl,t ++ [97 + r.toNat],by rw [List.map_append]; rfl,by rw [List.length_append,et]; rfl,ht.app fun c hc=>?_⟩)
        rw [List.mem_singleton.mp hc]; omega
      · rintro ys H' ⟨rfl,t,rfl,et,ht⟩ p3 hp3
        refine ⟨[],p3,t.map fun c=>[c],rfl,rfl,?_,?_,?_⟩
        · refine .inl (.inl ?_)
          rw [upd_same,List.map_map]
          rfl
        · rw [sum_ones]
          simp only [List.length_nil]; omega
        · rw [joinL_nil,flat_ones]
          exact main _ t (Same.up _ hp3) ht (by omega)
    intro H2 t s2 ht htl
    refine hc _ _ ?_
    clear hc c
    have hM2:=s2 _ _ hM
    have s12:=s1.trans s2
    have hS2:=s12.seq hS
    refine seq_set fun c hc=>?_
    suffices main:∀ mk:List Nat,Mark L mk→mk.length ≤ 300→c (.str (txt mk)) H2 by
      and_intros
      refine ⟨mulB_l (by decide) (by decide),sc,ns,_,_,rfl,hS2,hl,by omega,by omega,by omega,fun r h0 h1=>?_⟩
      and_intros
      refine ixABL_go (i:=1 + r) hL26 (by omega) (by omega) (addS_go (by simp only [List.length_cons,List.length_nil]; omega) (main _ ⟨ht.app fun c hc=>?_,Na.app (Na.one (show 97 + (1 + r).toNat ≠ 97 by omega)) (by simp),by simp⟩ ?_))
      · rw [List.mem_singleton.mp hc]; omega
      · rw [List.length_append]; simp only [List.length_cons,List.length_nil]; omega
    intro mk Mk zk
    refine hc _ _ ?_
    simp? [List.set_cons_zero,List.set_cons_succ]
    refine ⟨p,_,rfl,.inl (SqL.of hM2),rfl,flat_strs _,?_⟩
    rw [inV_strs]
    and_intros
    by_cases hin:mk ∈ ms
    · rw [if_neg (fun z=>z hin)]
      exact ⟨ms,_,_,_,s12,hM2,rfl,nd,hm,by omega⟩
    · rw [if_pos hin]
      refine ⟨.inl ⟨rfl,_,SqL.of hM2⟩,p,_,_,rfl,rfl,hM2,by rw [List.length_map,sizeLine_eq]; omega,?_⟩
      refine ⟨ms ++ [mk],_,_,_,s12.set hp,by rw [upd_same,List.map_append]; rfl,rfl,?_,fun m h=>?_,by rw [List.length_append]; simp; omega⟩
      · rw [List.nodup_append]
        refine ⟨nd,by simp,fun a ha b hb e=>?_⟩
        rw [List.mem_singleton.mp hb] at e
        subst e
        exact hin ha
      · rcases List.mem_append.mp h with h | h
        · exact hm m h
        · rw [List.mem_singleton.mp h]; exact ⟨Mk,zk⟩
  · rintro σ H1 ⟨ms,v5,v6,v7,s1,hM,rfl,nd,hm,hml⟩
    refine hc _ _ ?_
    and_intros
    rw [Int.toNat_natCast] at hml
    refine ⟨p,ms,rfl,SqL.of hM,by omega,fun r zs hr hpm hle=>?_⟩
    exact q _ r zs s1 hr (fun m h=>hm m (hpm.mem_iff.mp h)) (by rw [hpm.length_eq]; exact hml) (lt_of_sorted hle (hpm.nodup_iff.mpr nd))
def spTRows (K:PySem.W.Frag):Sp:=fun vs H Q _=>∃ (a:Addr) (ns:List Int) (b:Int) (L:Nat),vs = [.ref a,.int b,.int L]∧SqL K H a (ns.map V.int)∧ns.length ≤ 63∧0 ≤ b∧b ≤ 9000∧2 ≤ L∧L ≤ 26∧
  ∀ H' o xs (r:List RwN),Same H H'→H o = none→H' o = some (.lst xs)→Prs H' xs (r.map rowP)→RowsT L r→r.length ≤ 4→Q (.ref o) H'
def rdTRows (K:PySem.W.Frag):TS:=
    tSeq (tAsg (tCall (spTMarks K) [] E0 (tCons (tVar 0) (tCons (tVar 1) (tCons (tVar 2) (tCons (tCall (spDraw K) [] E0 (tCons (tVar 0) (tCons (tOp rAddI (tVar 1) (tC (.int 60))) (tCons (tC (.int 5)) tNil)))) tNil))))) (gName 3))
      (tSeq (tAsg (tCall (spTMarks K) [] E0 (tCons (tVar 0) (tCons (tOp rAddI (tVar 1) (tC (.int 61))) (tCons (tVar 2) (tCons (tCB (rLenL K) (tCons (tVar 3) tNil)) tNil))))) (gName 4))
      (tSeq (tAsg (tLst tNil) (gName 5))
      (tSeq (tFor (iList K (tVar 3)) (gName 6) (tSeq (tAsg (tC .non) (gName 7))
      (tSeq (tIfS (tAnd (tTest (tOp rGtI (tCB (rLenL K) (tCons (tVar 4) tNil)) (tC (.int 0)))) (tTest (tOp rGtI (tCall (spDraw K) [] E0 (tCons (tVar 0) (tCons (tOp rAddI (tOp rAddI (tVar 1) (tC (.int 120))) (tCB (rLenL K) (tCons (tVar 5) tNil))) (tCons (tC (.int 4)) tNil)))) (tC (.int 0))))) (tAsg (tBM K "list" rPopAt (tVar 4) (tCons (tC (.int 0)) tNil)) (gName 7)) (tNext))
      (tDrop (tBM K "list" rAppend (tVar 5) (tCons (tTup (tCons (tVar 6) (tCons (tVar 7) tNil))) tNil))))))
      (tRet (tVar 5)))))
def TRInv (sc p1 p2 p5:Addr) (b:Int) (L:Nat) (H:Hp) (ms news:List (List Nat)):Nat→St→Hp→Prop:=fun i σ H'=>∃ (ys:List V) (r:List RwN) (nr:List (List Nat)) (v6 v7:Option V),Keeps [p2,p5] H H'∧H' p2 = some (.lst (nr.map strV))∧H' p5 = some (.lst ys)∧ys.length = i∧Prs H' ys (r.map rowP)∧r.map (·.1) = ms.take i∧r.filterMap (·.2) ++ nr = news∧σ = [some (.ref sc),some (.int b),some (.int L),some (.ref p1),some (.ref p2),some (.ref p5),v6,v7]
theorem read_trows {K:PySem.W.Frag} {N:List Str} {vs:List V} {H:Hp} {Q:VK} {E:XK} (hN:N.length = 8) (h:spTRows K vs H Q E):rdTRows K { nx:=fun _ H'=>Q .non H',rt:=Q } (L2.start N vs) H:=by
  obtain ⟨sc,ns,b,L,rfl,hS,hl,hb0,hb1,hL,hL26,q⟩:=h
  unfold rdTRows L2.start
  rw [hN]
  refine seq_set fun c hc=>?_
  and_intros
  refine ⟨sc,ns,_,_,rfl,hS,hl,by omega,by omega,by decide,fun n hn0 hn1=>?_⟩
  obtain ⟨n,rfl⟩:=Int.eq_ofNat_of_zero_le hn0
  refine ⟨sc,ns,b,L,n,rfl,hS,hl,hb0,by omega,hL,hL26,by omega,fun Ha p1 ms sa hp1 hms hml hlt=>hc _ _ ?_⟩
  clear hc c
  have s1:=sa.new hp1 (o:=.lst (ms.map strV))
  have e1:(upd Ha p1 (.lst (ms.map strV))) p1 = some (.lst (ms.map strV)):=upd_same
  generalize upd Ha p1 _ = H1 at s1 e1 ⊢
  simp only [List.set_cons_zero,List.set_cons_succ,List.replicate_succ,List.replicate_zero,List.map_cons,List.map_nil,List.cons_append,List.nil_append]
  refine seq_set fun c hc=>?_
  and_intros
  refine lenL_go (SqL.of e1) ?_
  rw [List.length_map]
  refine ⟨sc,ns,_,L,ms.length,rfl,s1.seq hS,hl,by omega,by omega,hL,hL26,by omega,fun Hb p2 news sb hp2 hnw hnl hnt=>hc _ _ ?_⟩
  clear hc c
  have f2:=(s1.trans sb).free1 hp2
  have s2:=(s1.trans sb).new hp2 (o:=.lst (news.map strV))
  have e12:=(sb.new hp2 (o:=.lst (news.map strV))) _ _ e1
  have e2:(upd Hb p2 (.lst (news.map strV))) p2 = some (.lst (news.map strV)):=upd_same
  have n12:p1 ≠ p2:=fun z=>by rw [← z,sb _ _ e1] at hp2; cases hp2
  generalize upd Hb p2 _ = H2 at s2 e12 e2 ⊢
  refine seq_set fun c hc=>?_
  simp? [List.set_cons_zero,List.set_cons_succ]
  refine ⟨by decide,fun p5 hp5=>hc _ _ ?_⟩
  clear hc c
  have f5:=s2.free1 hp5
  have s3:=s2.new hp5 (o:=.lst [])
  have n15:p1 ≠ p5:=fun z=>by rw [← z,e12] at hp5; cases hp5
  have n25:p2 ≠ p5:=fun z=>by rw [← z,e2] at hp5; cases hp5
  have e13:=(Same.up H2 hp5 (o:=.lst [])) _ _ e12
  have e23:=(Same.up H2 hp5 (o:=.lst [])) _ _ e2
  have e5:(upd H2 p5 (.lst [])) p5 = some (.lst []):=upd_same
  generalize upd H2 p5 _ = H3 at s3 e13 e23 e5 ⊢
  have nosub:∀ b ∈ [p2,p5],H b = none:=fun b hb=>by
    simp only [List.mem_cons,List.not_mem_nil,or_false] at hb
    rcases hb with rfl | rfl
    · exact f2
    · exact f5
  have p1n:p1 ∉ [p2,p5]:=fun z=>by
    simp only [List.mem_cons,List.not_mem_nil,or_false] at z
    rcases z with z | z
    · exact n12 z
    · exact n15 z
  simp only [List.set_cons_zero,List.set_cons_succ]
  refine seq_any fun c hc=>?_
  refine for_l (a:=p1) (xs:=ms.map strV) (fun Q h=>⟨_,rfl,h⟩) (SqL.of e13) (TRInv sc p1 p2 p5 b L H3 ms news) ⟨[],[],news,none,none,fun b o e _=>e,e23,e5,rfl,trivial,rfl,rfl,rfl⟩ (fun i σ H' _ h=>?_) ?_ ?_
  · obtain ⟨_,_,_,_,_,k',_⟩:=h
    exact SqL.of (k' _ _ e13 p1n)
  · rintro i y σ H' hy ⟨ys,r,nr,v6,v7,k',l2',l5',hl',pr',hr1,hr2,rfl⟩
    rw [List.getElem?_map] at hy
    obtain ⟨o,ho,rfl⟩:=Option.map_eq_some_iff.mp hy
    have hi:i < ms.length:=(List.getElem?_eq_some_iff.mp ho).1
    have sH:=same_keep s3 k' nosub
    have etk:ms.take (i + 1) = ms.take i ++ [o]:=by rw [List.take_add_one,ho]; rfl
    have app:∀ (w:Option (List Nat)) (nr':List (List Nat)) (Hc:Hp),Keeps [p2,p5] H3 Hc→Hc p2 = some (.lst (nr'.map strV))→Hc p5 = some (.lst ys)→Prs Hc ys (r.map rowP)→(r ++ [(o,w)]).filterMap (·.2) ++ nr' = news→tDrop (tBM K "list" rAppend (tVar 5) (tCons (tTup (tCons (tVar 6) (tCons (tVar 7) tNil))) tNil)) { nx:=TRInv sc p1 p2 p5 b L H3 ms news (i + 1),rt:=Q,ct:=TRInv sc p1 p2 p5 b L H3 ms news (i + 1),bk:=c } [some (.ref sc),some (.int b),some (.int L),some (.ref p1),some (.ref p2),some (.ref p5),some (strV o),some (oV w)] Hc:=fun w nr' Hc kc lc2 lc5 prc hf=>by
      and_intros
      refine ⟨.inl ⟨rfl,_,SqL.of lc5⟩,by decide,fun t ht=>?_⟩
      have n6:p5 ≠ t:=fun z=>by subst z; rw [lc5] at ht; cases ht
      have n7:p2 ≠ t:=fun z=>by subst z; rw [lc2] at ht; cases ht
      refine append_go (by rw [upd_ne n6]; exact lc5) (by omega) ⟨_,r ++ [(o,w)],nr',_,_,(kc.upd (.inr ht)).upd (.inl (by simp)),by rw [upd_ne n25,upd_ne n7]; exact lc2,upd_same,by rw [List.length_append,hl']; rfl,?_,by rw [List.map_append,hr1,etk]; rfl,hf,rfl⟩
      rw [List.map_append]
      refine (prc.keep (keep_list ht lc5)).app ⟨⟨t,rfl,?_⟩,trivial⟩
      rw [upd_ne (Ne.symm n6),upd_same]
      rfl
    refine seq_set fun c1 hc1=>?_
    and_intros
    refine hc1 _ _ ?_
    clear hc1 c1
    simp only [List.set_cons_zero,List.set_cons_succ]
    refine seq_any fun c1 hc1=>?_
    and_intros
    have stay:c1 [some (.ref sc),some (.int b),some (.int L),some (.ref p1),some (.ref p2),some (.ref p5),some (strV o),some .non] H':=hc1 _ _ (app none nr H' k' l2' l5' pr' (by rw [List.filterMap_append]; simpa using hr2))
    refine lenL_go (SqL.of l2') ⟨_,rfl,?_⟩
    cases nr with
    | nil=>
      rw [if_neg (by simp)]
      exact stay
    | cons z nr=>
      rw [if_pos (by rw [List.length_map,List.length_cons]; omega)]
      refine lenL_go (SqL.of l5') ⟨_,rfl,sc,ns,_,_,rfl,sH.seq hS,hl,by omega,by omega,by decide,fun d hd0 hd1=>⟨_,rfl,?_⟩⟩
      by_cases hd:(0:Int) < d
      · rw [if_pos hd]
        refine ⟨.inl ⟨rfl,_,SqL.of l2'⟩,p2,_,0,0,strV z,rfl,rfl,l2',by decide,by decide,seqIx (by decide) (by rw [List.length_map,List.length_cons]; omega),rfl,?_⟩
        refine hc1 _ _ (app (some z) nr _ (k'.upd (.inl List.mem_cons_self)) upd_same (by rw [upd_ne (Ne.symm n25)]; exact l5') (pr'.keep fun t ys e=>by rw [upd_ne (fun x=>by subst x; rw [l2'] at e; cases e)]; exact e) ?_)
        rw [List.filterMap_append]
        simpa using hr2
      · rw [if_neg hd]
        exact stay
  rintro σ H4 ⟨ys,r,nr,v6,v7,k4,l2',l5',hl',pr',hr1,hr2,rfl⟩
  refine hc _ _ ?_
  clear hc c
  rw [List.length_map,List.take_length] at hr1
  have s4:=same_keep s3 k4 nosub
  have rl:r.length = ms.length:=by rw [← hr1,List.length_map]
  and_intros
  refine q _ p5 ys r s4 f5 l5' pr' ⟨by omega,fun y hy=>?_,fun y hy z hz=>?_,by rw [hr1]; exact hlt,?_⟩ (by omega)
  · have:=hms y.1 (by rw [← hr1]; exact List.mem_map_of_mem hy)
    exact ⟨this.1,by have:=this.2; omega⟩
  · have:=hnw z (by rw [← hr2]; exact List.mem_append_left _ (List.mem_filterMap.mpr ⟨y,hy,hz⟩))
    exact ⟨this.1,by have:=this.2; omega⟩
  · rw [← hr2] at hnt
    exact (List.pairwise_append.mp hnt).1
theorem comp_r1x {ta:TA} {fs:List Nat} {tt:TT} {te:TE} {σ:St} {H:Hp} {Q:VK} {B:Int} (ha:∀ R:List V→Hp→Prop,(∀ j:Int,0 ≤ j→j < B→R [.int j] H)→ta σ H R) (hB:B ≤ 100000)
    (Pv:Nat→List V→Hp→Prop) (h0:Pv 0 [] H) (hl:∀ i ys H,Pv i ys H→ys.length ≤ i)
    (hs:∀ (i:Nat) ys H,(i:Int) < B→Pv i ys H→∀ R:List V→Hp→Prop,(∀ ys' H',Pv (i + 1) ys' H'→R ys' H')→tt (some (.int i) :: compSt fs σ) H fun b H2=>if b = true then te (some (.int i) :: compSt fs σ) H2 fun y H3=>R (ys ++ [y]) H3 else R ys H2)
    (hd:∀ (i:Nat) ys H,(i:Int) < B→Pv i ys H→∀ p,H p = none→Q (.ref p) (upd H p (.lst ys))):tComp (iRng1 ta) fs tt te σ H Q:=by
  refine ha _ fun j j0 j1=>⟨j,rfl,by omega,by omega,?_⟩
  refine comp_range (lo:=0) (n:=j.toNat) Pv h0 (fun i ys H _ p=>hl i ys H p) (by rw [sizeLine_eq]; omega) (fun i ys H hi p=>?_) (fun ys H p=>hd _ ys H (by omega) p)
  rw [Int.zero_add]
  exact hs i ys H (by omega) p
theorem for_pre {K:PySem.W.Frag} {tl:TE} {g:TG} {tb:TS} {D:Ends} {σ:St} {H:Hp} (h:tl σ H fun x H1=>tFor (iList K (tC x)) g tb D σ H1):tFor (iList K tl) g tb D σ H:=h
theorem RowsT.ok {L:Nat} {r:List RwN} (T:RowsT L r):RowsOk L r where
  up:=List.pairwise_map.mp T.oup
  olds:=T.old
  news:=(List.pairwise_filterMap.mp T.nup).imp fun h x y hx hy=>h x hx y hy
  marks:=T.new
  len:=by have:=T.few; omega
def CarA (L:Nat):List (List RwN)→List Nat→Option (List Nat)→Prop
  | [],m,v=>v = some m
  | r :: R,m,v=>(∃ x,Car L r m (some x)∧CarA L R x v) ∨ (Car L r m none∧v = none)
theorem CarA.one {L:Nat} (hL:2 ≤ L):∀ {R:List (List RwN)} {m:List Nat} {v v':Option (List Nat)},(∀ r ∈ R,RowsOk L r)→CarA L R m v→CarA L R m v'→v = v'
  | [],_,_,_,_,a,b=>a.trans b.symm
  | r :: R,m,v,v',O,a,b=>by
    have O1:=O r List.mem_cons_self
    rcases a with ⟨x,a1,a2⟩ | ⟨a1,rfl⟩ <;> rcases b with ⟨y,b1,b2⟩ | ⟨b1,rfl⟩
    · have e:=Car.one O1 hL a1 b1
      injection e with e
      subst e
      exact CarA.one hL (fun r h=>O r (List.mem_cons_of_mem _ h)) a2 b2
    · cases Car.one O1 hL a1 b1
    · cases Car.one O1 hL a1 b1
    · rfl
theorem CarA.snoc {L:Nat}:∀ {R:List (List RwN)} {r:List RwN} {m x:List Nat} {v:Option (List Nat)},CarA L R m (some x)→Car L r x v→CarA L (R ++ [r]) m v
  | [],r,m,x,v,a,b=>by
    have e:some x = some m:=a
    injection e with e
    subst e
    cases v with
    | none=>exact .inr ⟨b,rfl⟩
    | some y=>exact .inl ⟨y,b,rfl⟩
  | q :: R,r,m,x,v,a,b=>by
    rcases a with ⟨y,a1,a2⟩ | ⟨a1,a2⟩
    · exact .inl ⟨y,a1,a2.snoc b⟩
    · cases a2
theorem CarA.gone {L:Nat}:∀ {R S:List (List RwN)} {m:List Nat},CarA L R m none→CarA L (R ++ S) m none
  | [],_,_,a=>by cases a
  | q :: R,S,m,a=>by
    rcases a with ⟨y,a1,a2⟩ | ⟨a1,_⟩
    · exact .inl ⟨y,a1,a2.gone⟩
    · exact .inr ⟨a1,rfl⟩
theorem CarA.unsnoc {L:Nat}:∀ {R:List (List RwN)} {r:List RwN} {m y:List Nat},CarA L (R ++ [r]) m (some y)→∃ x,CarA L R m (some x)∧Car L r x (some y)
  | [],r,m,y,a=>by
    rcases a with ⟨z,a1,a2⟩ | ⟨a1,a2⟩
    · have e:some y = some z:=a2
      injection e with e
      subst e
      exact ⟨m,rfl,a1⟩
    · cases a2
  | q :: R,r,m,y,a=>by
    rcases a with ⟨z,a1,a2⟩ | ⟨a1,a2⟩
    · obtain ⟨x,b1,b2⟩:=CarA.unsnoc a2
      exact ⟨x,.inl ⟨z,a1,b1⟩,b2⟩
    · cases a2
theorem CarA.len {L:Nat} (hL:2 ≤ L):∀ {R:List (List RwN)} {m x:List Nat},(∀ r ∈ R,RowsOk L r)→Mark L m→CarA L R m (some x)→Mark L x∧x.length ≤ 501 * R.length + m.length
  | [],m,x,_,M,a=>by
    have e:some x = some m:=a
    injection e with e
    subst e
    exact ⟨M,by omega⟩
  | r :: R,m,x,O,M,a=>by
    rcases a with ⟨z,a1,a2⟩ | ⟨a1,a2⟩
    · obtain ⟨M1,l1⟩:=Car.len (O r List.mem_cons_self) hL M a1
      obtain ⟨M2,l2⟩:=CarA.len hL (fun r h=>O r (List.mem_cons_of_mem _ h)) M1 a2
      exact ⟨M2,by rw [List.length_cons]; omega⟩
    · cases a2
structure MinOf (S zs:List (List Nat × List Nat)):Prop where
  up:(zs.map (·.1)).Pairwise (· < ·)
  mem:∀ z ∈ zs,z ∈ S
  all:∀ q ∈ S,∃ z ∈ zs,z.1 = q.1∧¬ q.2 < z.2
theorem up_eq {zs zs':List (List Nat × List Nat)} (h:(zs.map (·.1)).Pairwise (· < ·)) (h':(zs'.map (·.1)).Pairwise (· < ·)) (e:∀ z,z ∈ zs ↔ z ∈ zs'):zs = zs':=by
  have nd:∀ {l:List (List Nat × List Nat)},(l.map (·.1)).Pairwise (· < ·)→l.Nodup:=fun h=>(List.pairwise_map.mp h).imp fun g z=>by subst z; exact List.lt_irrefl _ g
  exact ((List.perm_ext_iff_of_nodup (nd h) (nd h')).mpr e).eq_of_pairwise (le:=fun a b=>a.1 < b.1) (fun a b _ _ h g=>absurd (List.lt_trans h g) (List.lt_irrefl a.1)) (List.pairwise_map.mp h) (List.pairwise_map.mp h')
theorem up_one {zs:List (List Nat × List Nat)} (h:(zs.map (·.1)).Pairwise (· < ·)) {a b:List Nat × List Nat} (ha:a ∈ zs) (hb:b ∈ zs) (e:a.1 = b.1):a = b:=by
  obtain ⟨i,hi,rfl⟩:=List.mem_iff_getElem.mp ha
  obtain ⟨j,hj,rfl⟩:=List.mem_iff_getElem.mp hb
  have k:=List.pairwise_iff_getElem.mp (List.pairwise_map.mp h)
  rcases Nat.lt_trichotomy i j with z | z | z
  · have:=k i j hi hj z; rw [e] at this; exact absurd this (List.lt_irrefl _)
  · subst z; rfl
  · have:=k j i hj hi z; rw [e] at this; exact absurd this (List.lt_irrefl _)
theorem MinOf.sub {S S' zs zs':List (List Nat × List Nat)} (A:MinOf S zs) (B:MinOf S' zs') (e:∀ q,q ∈ S ↔ q ∈ S'):∀ z ∈ zs,z ∈ zs':=fun z hz=>by
  obtain ⟨z1,h1,e1,n1⟩:=B.all z ((e z).mp (A.mem z hz))
  obtain ⟨z2,h2,e2,n2⟩:=A.all z1 ((e z1).mpr (B.mem z1 h1))
  have:z2 = z:=up_one A.up h2 hz (e2.trans e1)
  subst this
  have et:z1.2 = z2.2:=by
    rcases lt_three z1.2 z2.2 with x | x | x
    · exact absurd x n2
    · exact x
    · exact absurd x n1
  have:z1 = z2:=Prod.ext e1 et
  rw [← this]
  exact h1
theorem MinOf.one {S S' zs zs':List (List Nat × List Nat)} (A:MinOf S zs) (B:MinOf S' zs') (e:∀ q,q ∈ S ↔ q ∈ S'):zs = zs':=
  up_eq A.up B.up fun z=>⟨A.sub B e z,B.sub A (fun q=>(e q).symm) z⟩
theorem MinOf.self {zs:List (List Nat × List Nat)} (h:(zs.map (·.1)).Pairwise (· < ·)):MinOf zs zs:=⟨h,fun _ h=>h,fun q hq=>⟨q,hq,rfl,List.lt_irrefl _⟩⟩
theorem up_set {ws ws':List (List Nat)} (h:ws.Pairwise (· < ·)) (h':ws'.Pairwise (· < ·)) (e:∀ m,m ∈ ws ↔ m ∈ ws'):ws = ws':=
  sorted_one ((List.perm_ext_iff_of_nodup (nodup_up h) (nodup_up h')).mpr e) h h'
def spCarAll (K:PySem.W.Frag):Sp:=fun vs H Q _=>∃ (L:Nat) (p d:Addr) (cs:List Addr) (R:List (List RwN)) (m:List Nat) (kvs:List (List Key × V)),vs = [.int L,.ref p,.str (txt m),.ref d]∧2 ≤ L∧L ≤ 26∧H p = some (.lst (cs.map V.ref))∧RowsC H cs R∧(∀ r ∈ R,RowsOk L r)∧R.length ≤ 100∧Mark L m∧m.length ≤ 30000∧
  H d = some (.dT kvs)∧StemsD L kvs∧kvs.length ≤ 90000∧
  ∀ H' v kvs',Keeps [d] H H'→H' d = some (.dT kvs')→StemsD L kvs'→kvs'.length ≤ kvs.length + R.length→CarA L R m v→Q (oV v) H'
def rdCarAll (K:PySem.W.Frag):TS:=
    tSeq (tAsg (tVar 2) (gName 4))
      (tSeq (tFor (iList K (tVar 1)) (gName 5) (tSeq (tIfS (tB (tIsN (tVar 4))) (tRet (tC .non)) (tNext))
      (tAsg (tCall (spCarK K) [] E0 (tCons (tVar 0) (tCons (tVar 5) (tCons (tVar 4) (tCons (tVar 3) tNil))))) (gName 4))))
      (tRet (tVar 4)))
theorem RowsC.keepF {H H':Hp} {F:List Addr} (k:Keeps F H H'):∀ {as:List Addr} {R:List (List RwN)},RowsC H as R→(∀ f ∈ F,(∀ xs,H f ≠ some (.lst xs))∧∀ xs,H f ≠ some (.tup xs))→RowsC H' as R
  | [],[],_,_=>trivial
  | [],_ :: _,h,_=>h.elim
  | _ :: _,[],h,_=>h.elim
  | _ :: _,_ :: _,⟨⟨xs,e,p⟩,r⟩,n=>⟨⟨xs,k _ _ e fun z=>(n _ z).1 _ e,p.keep fun t ys et=>k _ _ et fun z=>(n _ z).2 _ et⟩,RowsC.keepF k r n⟩
def CAInv (p d:Addr) (H:Hp) (L:Nat) (m:List Nat) (R:List (List RwN)) (kvs:List (List Key × V)):Nat→St→Hp→Prop:=fun i σ H'=>∃ (v:Option (List Nat)) (kvs':List (List Key × V)) (v5:Option V),Keeps [d] H H'∧H' d = some (.dT kvs')∧StemsD L kvs'∧kvs'.length ≤ kvs.length + i∧CarA L (R.take i) m v∧σ = [some (.int L),some (.ref p),some (.str (txt m)),some (.ref d),some (oV v),v5]
theorem read_carAll {K:PySem.W.Frag} {N:List Str} {vs:List V} {H:Hp} {Q:VK} {E:XK} (hN:N.length = 6) (h:spCarAll K vs H Q E):rdCarAll K { nx:=fun _ H'=>Q .non H',rt:=Q } (L2.start N vs) H:=by
  obtain ⟨L,p,d,cs,R,m,kvs,rfl,hL,hL26,hp,hR,O,few,M,hm,hd,hst,hkv,q⟩:=h
  have cl:=hR.len
  unfold rdCarAll L2.start
  rw [hN]
  refine seq_set fun c hc=>?_
  and_intros
  refine hc _ _ ?_
  clear hc c
  refine seq_any fun c hc=>?_
  simp? [List.set_cons_zero,List.set_cons_succ,List.replicate_succ,List.replicate_zero,List.map_cons,List.map_nil,List.cons_append,List.nil_append]
  have nd:p ≠ d:=fun z=>by subst z; rw [hp] at hd; cases hd
  have nf:∀ f ∈ [d],(∀ xs,H f ≠ some (.lst xs))∧∀ xs,H f ≠ some (.tup xs):=fun f hf=>by
    rw [List.mem_singleton.mp hf,hd]
    exact ⟨fun _ z=>(nomatch z),fun _ z=>(nomatch z)⟩
  refine for_l (a:=p) (xs:=cs.map V.ref) (fun Q h=>⟨_,rfl,h⟩) (SqL.of hp) (CAInv p d H L m R kvs)
    ⟨some m,kvs,none,fun _ _ e _=>e,hd,hst,Nat.le_refl _,rfl,rfl⟩ (fun i σ H' _ h=>?_) ?_ ?_
  · obtain ⟨_,_,_,k,_⟩:=h
    exact SqL.of (k _ _ hp (by simpa using nd))
  · rintro i x σ H' hx ⟨v,kvs',v5,k,hd',st',kl,car,rfl⟩
    rw [List.getElem?_map] at hx
    obtain ⟨b,hb,rfl⟩:=Option.map_eq_some_iff.mp hx
    have hR':=hR.keepF k nf
    obtain ⟨r,xs,er,hx,px⟩:=hR'.get hb
    have hi:i < R.length:=(List.getElem?_eq_some_iff.mp er).1
    have etk:R.take (i + 1) = R.take i ++ [r]:=by rw [List.take_add_one,er]; rfl
    cases v with
    | none=>
      simp? [oV]
      refine q H' none kvs' k hd' st' (by omega) ?_
      rw [← List.take_append_drop i R]
      exact car.gone
    | some y=>
      have Oi:∀ r ∈ R.take i,RowsOk L r:=fun r h=>O r (List.take_subset _ _ h)
      obtain ⟨My,ly⟩:=car.len hL Oi M
      rw [List.length_take] at ly
      refine seq_any fun c1 hc1=>?_
      simp? [oV]
      refine hc1 _ _ ?_
      and_intros
      refine ⟨L,b,d,r,y,kvs',rfl,hL,hL26,⟨xs,SqL.of hx,px⟩,O r (List.mem_of_getElem? er),My,by omega,hd',st',by omega,fun H2 v2 kvs2 k2 hd2 st2 kl2 c2=>?_⟩
      exact ⟨v2,kvs2,_,Keeps.trans k k2,hd2,st2,by omega,by rw [etk]; exact car.snoc c2,rfl⟩
  · rintro σ H' ⟨v,kvs',v5,k,hd',st',kl,car,rfl⟩
    refine hc _ _ ?_
    rw [List.length_map,cl] at kl car
    rw [List.take_length] at car
    and_intros
    exact q H' v kvs' k hd' st' kl car
theorem RowsC.take {H:Hp}:∀ {as:List Addr} {R:List (List RwN)} (n:Nat),RowsC H as R→RowsC H (as.take n) (R.take n)
  | [],[],n,_=>by simp [RowsC]
  | [],_ :: _,_,h=>h.elim
  | _ :: _,[],_,h=>h.elim
  | _ :: _,_ :: _,0,_=>trivial
  | _ :: _,_ :: _,n + 1,⟨a,r⟩=>⟨a,RowsC.take n r⟩
theorem RowsC.drop {H:Hp}:∀ {as:List Addr} {R:List (List RwN)} (n:Nat),RowsC H as R→RowsC H (as.drop n) (R.drop n)
  | [],[],n,_=>by simp [RowsC]
  | [],_ :: _,_,h=>h.elim
  | _ :: _,[],_,h=>h.elim
  | _ :: _,_ :: _,0,h=>h
  | _ :: _,_ :: _,n + 1,⟨_,r⟩=>RowsC.drop n r
theorem RowsOk.str {L:Nat} (hL:L ≤ 26) {R:List (List RwN)} (O:∀ r ∈ R,RowsOk L r):∀ r ∈ R,∀ y ∈ r,PyData.strOk (txt y.1) = true∧∀ z,y.2 = some z→PyData.strOk (txt z) = true:=fun r hr y hy=>
  ⟨strOk_mark hL ((O r hr).olds y hy).1.ls,fun z hz=>strOk_mark hL ((O r hr).marks y hy z hz).1.ls⟩
def spMeet (K:PySem.W.Frag):Sp:=fun vs H Q _=>∃ (p q p1 p2 p3 q1 q2 q3:Addr) (bs cs:List Addr) (ts us:List V) (L h n:Nat) (R:List (List RwN)) (zs zs':List (List Nat × List Nat)) (ws ws':List (List Nat)),vs = [.ref p,.ref q]∧StA H p p1 p2 p3 bs ts L h (R.take n) zs ws∧StA H q q1 q2 q3 cs us L h R zs' ws'∧n ≤ R.length∧R.length ≤ 100∧L ≤ 26∧(∀ r ∈ R,RowsOk L r)∧∀ H',Same H H'→Q .non H'
def rdMeet (K:PySem.W.Frag):TS:=
    tSeq (tAsg (tSl (rSlL K) (tOp (rIxT K) (tVar 1) (tC (.int 2))) tNoPart (tPart (tCB (rLenL K) (tCons (tOp (rIxT K) (tVar 0) (tC (.int 2))) tNil)))) (gName 2))
      (tIfS (tOr (tTest (tOp rNe (tOp (rIxT K) (tVar 0) (tC (.int 0))) (tOp (rIxT K) (tVar 1) (tC (.int 0))))) (tOr (tTest (tOp rNe (tOp (rIxT K) (tVar 0) (tC (.int 1))) (tOp (rIxT K) (tVar 1) (tC (.int 1))))) (tTest (tOp (rNeD K) (tOp (rIxT K) (tVar 0) (tC (.int 2))) (tVar 2))))) (tNever) (tNext))
theorem shaped_rows {R:List (List RwN)} (ok:∀ r ∈ R,∀ y ∈ r,PyData.strOk (txt y.1) = true∧∀ z,y.2 = some z→PyData.strOk (txt z) = true):SeqAt.shaped (.list (rowsD R)) = true:=by
  obtain ⟨a,b⟩:=lay_rows ok
  unfold SeqAt.shaped
  rw [Bool.and_eq_true]
  refine ⟨by simp [PyData.canLay0,a],?_⟩
  rw [decide_eq_true_eq]
  simp only [PyData.depth]
  omega
theorem read_meet {K:PySem.W.Frag} {N:List Str} {vs:List V} {H:Hp} {Q:VK} {E:XK} (hN:N.length = 3) (h:spMeet K vs H Q E):rdMeet K { nx:=fun _ H'=>Q .non H',rt:=Q } (L2.start N vs) H:=by
  obtain ⟨p,q,p1,p2,p3,q1,q2,q3,bs,cs,ts,us,L,h,n,R,zs,zs',ws,ws',rfl,A,B,hn,few,hL26,O,k⟩:=h
  have bl:=A.row.len
  have cl:=B.row.len
  rw [List.length_take,Nat.min_eq_left hn] at bl
  unfold rdMeet L2.start
  rw [hN]
  refine seq_set fun c hc=>?_
  and_intros
  refine ixT_go (v:=.ref q1) (SqT.of B.top) (by decide) rfl (ixT_go (v:=.ref p1) (SqT.of A.top) (by decide) rfl (lenL_go (SqL.of A.ren) ?_))
  rw [List.length_map,bl]
  refine ⟨_,rfl,slL_go (SqL.of B.ren) fun s hs=>hc _ _ ?_⟩
  clear hc c
  rw [cutV_to (by rw [List.length_map]; omega),← List.map_take]
  have s1:=Same.up H hs (o:=.lst ((cs.take n).map V.ref))
  have e1:(upd H s (.lst ((cs.take n).map V.ref))) s = some (.lst ((cs.take n).map V.ref)):=upd_same
  generalize upd H s _ = H1 at s1 e1 ⊢
  have A1:=A.same s1
  have B1:=B.same s1
  have ok:=RowsOk.str hL26 (R:=R.take n) fun r hr=>O r (List.take_subset _ _ hr)
  simp? [List.set_cons_zero,List.set_cons_succ,List.replicate_succ,List.replicate_zero,List.map_cons,List.map_nil,List.cons_append,List.nil_append]
  refine ixT_go (v:=.int L) (SqT.of A1.top) (by decide) rfl (ixT_go (v:=.int L) (SqT.of B1.top) (by decide) rfl ⟨rfl,?_⟩)
  rw [if_neg (fun z=>z rfl)]
  refine ixT_go (v:=.int h) (SqT.of A1.top) (by decide) rfl (ixT_go (v:=.int h) (SqT.of B1.top) (by decide) rfl ⟨rfl,?_⟩)
  rw [if_neg (fun z=>z rfl)]
  refine ixT_go (v:=.ref p1) (SqT.of A1.top) (by decide) rfl ⟨_,_,.lst (SqL.of A1.ren) (A1.row.dat ok),.lst (SqL.of e1) ((B1.row.take n).dat ok),shaped_rows ok,shaped_rows ok,_,rfl,?_⟩
  rw [SeqAt.eqv_refl _ (SeqAt.canLay_of_shaped (shaped_rows ok))]
  rw [if_neg (by decide)]
  exact k H1 s1
structure MinAcc (S kvs:List (List Nat × List Nat)):Prop where
  nd:(kvs.map (·.1)).Nodup
  mem:∀ z ∈ kvs,z ∈ S
  all:∀ q ∈ S,∃ z ∈ kvs,z.1 = q.1∧¬ q.2 < z.2
  len:kvs.length ≤ S.length
theorem nd_one {kvs:List (List Nat × List Nat)} (h:(kvs.map (·.1)).Nodup) {a b:List Nat × List Nat} (ha:a ∈ kvs) (hb:b ∈ kvs) (e:a.1 = b.1):a = b:=by
  obtain ⟨i,hi,rfl⟩:=List.mem_iff_getElem.mp ha
  obtain ⟨j,hj,rfl⟩:=List.mem_iff_getElem.mp hb
  have k:=List.pairwise_iff_getElem.mp (List.pairwise_map.mp h)
  rcases Nat.lt_trichotomy i j with z | z | z
  · exact absurd e (k i j hi hj z)
  · subst z; rfl
  · exact absurd e.symm (k j i hj hi z)
def setT (kvs:List (List Nat × List Nat)) (m t:List Nat):List (List Nat × List Nat):=kvs.map fun kv=>if kv.1 = m then (kv.1,t) else kv
theorem setT_keys (kvs:List (List Nat × List Nat)) (m t:List Nat):(setT kvs m t).map (·.1) = kvs.map (·.1):=by
  unfold setT
  rw [List.map_map]
  refine List.map_congr_left fun kv _=>?_
  show (if kv.1 = m then (kv.1,t) else kv).1 = kv.1
  split <;> rfl
theorem val_some {m:List Nat}:∀ {kvs:List (List Nat × List Nat)},m ∈ kvs.map (·.1)→∃ t,(m,t) ∈ kvs∧valV (thD kvs) (Key.inr (txt m)) = some (strV t)
  | [],h=>(nomatch h)
  | k :: kvs,h=>by
    show ∃ t,_∧valV ((Key.inr (txt k.1),strV k.2) :: thD kvs) _ = _
    by_cases e:k.1 = m
    · exact ⟨k.2,by rw [← e]; exact List.mem_cons_self,valV_pos (by rw [e])⟩
    · have h2:m ∈ kvs.map (·.1):=by
        rcases List.mem_cons.mp h with z | z
        · exact absurd z.symm e
        · exact z
      obtain ⟨t,a,b⟩:=val_some h2
      exact ⟨t,List.mem_cons_of_mem _ a,by rw [valV_neg (fun z=>e (txt_inj.mp (by injection z)))]; exact b⟩
theorem thD_set {kvs:List (List Nat × List Nat)} {m:List Nat} (t:List Nat) (h:m ∈ kvs.map (·.1)):putK (thD kvs) (Key.inr (txt m)) (strV t) = thD (setT kvs m t):=by
  obtain ⟨t0,_,e⟩:=val_some h
  unfold putK
  rw [valV_any,e]
  rw [if_pos (show (some (strV t0)).isSome = true from rfl)]
  unfold thD setT
  rw [List.map_map,List.map_map]
  refine List.map_congr_left fun kv _=>?_
  show (if Key.inr (txt kv.1) = Key.inr (txt m) then (Key.inr (txt kv.1),strV t) else (Key.inr (txt kv.1),strV kv.2)) = _
  by_cases z:kv.1 = m
  · rw [if_pos (by rw [z])]
    show _ = (Key.inr (txt (if kv.1 = m then (kv.1,t) else kv).1),strV (if kv.1 = m then (kv.1,t) else kv).2)
    rw [if_pos z]
  · rw [if_neg (fun y=>z (txt_inj.mp (by injection y)))]
    show _ = (Key.inr (txt (if kv.1 = m then (kv.1,t) else kv).1),strV (if kv.1 = m then (kv.1,t) else kv).2)
    rw [if_neg z]
theorem MinAcc.nil:MinAcc [] []:=⟨List.nodup_nil,fun _ h=>(nomatch h),fun _ h=>(nomatch h),Nat.le_refl _⟩
theorem MinAcc.put {S kvs:List (List Nat × List Nat)} (A:MinAcc S kvs) (m t:List Nat) :
    ∃ u kvs',(valV (thD kvs) (Key.inr (txt m))).getD (strV t) = strV u∧putK (thD kvs) (Key.inr (txt m)) (strV (if u < t then u else t)) = thD kvs'∧MinAcc (S ++ [(m,t)]) kvs':=by
  by_cases h:m ∈ kvs.map (·.1)
  · obtain ⟨t0,hm,e⟩:=val_some h
    refine ⟨t0,setT kvs m (if t0 < t then t0 else t),by rw [e]; rfl,thD_set _ h,?_⟩
    generalize ew:(if t0 < t then t0 else t) = w
    have hw:(w = t0 ∨ w = t)∧¬ t < w∧∀ q:List Nat,¬ q < t0→¬ q < w:=by
      by_cases z:t0 < t
      · rw [if_pos z] at ew
        subst ew
        exact ⟨.inl rfl,fun y=>List.lt_irrefl _ (List.lt_trans z y),fun q h=>h⟩
      · rw [if_neg z] at ew
        subst ew
        exact ⟨.inr rfl,List.lt_irrefl _,fun q h y=>h (ll_lt_le y z)⟩
    refine ⟨by rw [setT_keys]; exact A.nd,fun z hz=>?_,fun q hq=>?_,by unfold setT; rw [List.length_map,List.length_append]; have:=A.len; omega⟩
    · obtain ⟨kv,hkv,rfl⟩:=List.mem_map.mp hz
      by_cases y:kv.1 = m
      · rw [if_pos y,y]
        rcases hw.1 with x | x
        · rw [x]; exact List.mem_append_left _ (A.mem _ hm)
        · rw [x]; exact List.mem_append_right _ (by simp)
      · rw [if_neg y]; exact List.mem_append_left _ (A.mem _ hkv)
    · have inm:(m,w) ∈ setT kvs m w:=List.mem_map.mpr ⟨(m,t0),hm,by rw [if_pos rfl]⟩
      rcases List.mem_append.mp hq with hq | hq
      · obtain ⟨z,hz,e1,n1⟩:=A.all q hq
        by_cases y:z.1 = m
        · have:z = (m,t0):=nd_one A.nd hz hm y
          subst this
          exact ⟨_,inm,e1,hw.2.2 _ n1⟩
        · exact ⟨z,List.mem_map.mpr ⟨z,hz,by rw [if_neg y]⟩,e1,n1⟩
      · rw [List.mem_singleton.mp hq]
        exact ⟨_,inm,rfl,hw.2.1⟩
  · refine ⟨t,kvs ++ [(m,t)],by rw [val_th m kvs h]; rfl,by rw [if_neg (List.lt_irrefl _)]; exact thD_put t h,?_⟩
    refine ⟨?_,fun z hz=>?_,fun q hq=>?_,by rw [List.length_append,List.length_append]; have:=A.len; simp; omega⟩
    · rw [List.map_append,List.nodup_append]
      exact ⟨A.nd,by simp,fun a ha b hb z=>by
        subst z
        have:a = m:=by simpa using hb
        rw [this] at ha
        exact h ha⟩
    · rcases List.mem_append.mp hz with hz | hz
      · exact List.mem_append_left _ (A.mem z hz)
      · exact List.mem_append_right _ hz
    · rcases List.mem_append.mp hq with hq | hq
      · obtain ⟨z,hz,e1,n1⟩:=A.all q hq
        exact ⟨z,List.mem_append_left _ hz,e1,n1⟩
      · rw [List.mem_singleton.mp hq]
        exact ⟨(m,t),List.mem_append_right _ (by simp),rfl,List.lt_irrefl _⟩
theorem MinAcc.min {S kvs zs:List (List Nat × List Nat)} (A:MinAcc S kvs) (p:zs.Perm kvs) (up:(zs.map (·.1)).Pairwise (· < ·)):MinOf S zs:=
  ⟨up,fun z hz=>A.mem z (p.mem_iff.mp hz),fun q hq=>by obtain ⟨z,hz,e⟩:=A.all q hq; exact ⟨z,p.mem_iff.mpr hz,e⟩⟩
def spAllThings (K:PySem.W.Frag):Sp:=fun vs H Q _=>∃ (a b:Addr) (xs ys:List V) (S1 S2:List (List Nat × List Nat)),vs = [.ref a,.ref b]∧H a = some (.lst xs)∧Prs H xs (S1.map stP)∧H b = some (.lst ys)∧Prs H ys (S2.map stP)∧S1.length + S2.length < 64∧
  ∀ H' o ts zs,Same H H'→H o = none→H' o = some (.lst ts)→Prs H' ts (zs.map stP)→MinOf (S1 ++ S2) zs→Q (.ref o) H'
def rdAllThings (K:PySem.W.Frag):TS:=
    tSeq (tAsg tDNewK (gName 2))
      (tSeq (tFor (iList K (tOp rCat (tVar 0) (tVar 1))) (gTup K 2 (gCons (gName 3) (gCons (gName 4) gNil))) (sDPut (tVar 2) (tVar 3) (tCB rMin2S (tCons (tVar 4) (tCons (tDGet2 (tVar 2) (tVar 3) (tVar 4)) tNil)))))
      (tRet (tCB rSortedI (tCons (tBM0 K "dict" rItems (tVar 2)) tNil))))
def ATInv (a b d:Addr) (H:Hp) (S:List (List Nat × List Nat)):Nat→St→Hp→Prop:=fun i σ H'=>∃ (kvs:List (List Nat × List Nat)) (v3 v4:Option V),Keeps [d] H H'∧H' d = some (.dK (thD kvs))∧MinAcc (S.take i) kvs∧σ = [some (.ref a),some (.ref b),some (.ref d),v3,v4]
theorem read_allThings {K:PySem.W.Frag} {N:List Str} {vs:List V} {H:Hp} {Q:VK} {E:XK} (hN:N.length = 5) (h:spAllThings K vs H Q E):rdAllThings K { nx:=fun _ H'=>Q .non H',rt:=Q } (L2.start N vs) H:=by
  obtain ⟨a,b,xs,ys,S1,S2,rfl,ha,pa,hb,pb,h64,q⟩:=h
  have xl:=pa.len
  have yl:=pb.len
  rw [List.length_map] at xl yl
  unfold rdAllThings L2.start
  rw [hN]
  refine seq_set fun c hc=>?_
  simp? [tDNewK]
  refine fun d hd=>hc _ _ ?_
  clear hc c
  have s1:=Same.up H hd (o:=.dK [])
  have ed:(upd H d (.dK [])) d = some (.dK (thD [])):=upd_same
  generalize upd H d _ = H1 at s1 ed ⊢
  simp only [List.set_cons_zero,List.set_cons_succ,List.replicate_succ,List.replicate_zero,List.map_cons,List.map_nil,List.cons_append,List.nil_append]
  refine seq_any fun c hc=>?_
  refine for_pre ?_
  and_intros
  refine ⟨a,b,xs,ys,rfl,rfl,s1 _ _ ha,s1 _ _ hb,by rw [sizeLine_eq]; omega,fun l hl=>?_⟩
  have nd:l ≠ d:=fun z=>by subst z; rw [ed] at hl; cases hl
  have s2:=Same.up H1 hl (o:=.lst (xs ++ ys))
  have el:(upd H1 l (.lst (xs ++ ys))) l = some (.lst (xs ++ ys)):=upd_same
  generalize upd H1 l _ = H2 at s2 el ⊢
  have s12:=s1.trans s2
  have ps:Prs H2 (xs ++ ys) ((S1 ++ S2).map stP):=by rw [List.map_append]; exact (pa.same s12).app (pb.same s12)
  refine for_l (a:=l) (xs:=xs ++ ys) (fun Q h=>h) (SqL.of el) (ATInv a b d H2 (S1 ++ S2)) ⟨[],none,none,fun _ _ e _=>e,s2 _ _ ed,MinAcc.nil,rfl⟩ (fun i σ H' _ h=>?_) ?_ ?_
  · obtain ⟨_,_,_,k,_⟩:=h
    exact SqL.of (k _ _ el (by simpa using nd))
  · rintro i x σ H' hx ⟨kvs,v3,v4,k,hd',A,rfl⟩
    obtain ⟨kv,t,ek,rfl,ht⟩:=ps.get hx
    rw [List.getElem?_map] at ek
    obtain ⟨⟨m,th⟩,ek2,rfl⟩:=Option.map_eq_some_iff.mp ek
    have etk:(S1 ++ S2).take (i + 1) = (S1 ++ S2).take i ++ [(m,th)]:=by rw [List.take_add_one,ek2]; rfl
    have ht':=k _ _ ht (fun z=>by rw [List.mem_singleton.mp z,s2 _ _ ed] at ht; cases ht)
    obtain ⟨u,kvs',e1,e2,A'⟩:=A.put m th
    have kl:=A.len
    rw [List.length_take] at kl
    simp? [gTup,gCons,gNil,stP,sDPut,tDGet2]
    refine ⟨[strV m,strV th],SqT.of ht',rfl,strV m,[strV th],rfl,strV th,[],rfl,rfl,?_⟩
    refine ⟨.inl ⟨_,.inl hd'⟩,_,DGet.k (k:=.inr (txt m)) hd',?_⟩
    rw [e1]
    refine ⟨th,u,rfl,_,DPut.k (k:=.inr (txt m)) hd' (by unfold thD; rw [List.length_map,sizeLine_eq]; rw [List.length_append] at kl; omega),kvs',_,_,k.upd (.inl List.mem_cons_self),?_,by rw [etk]; exact A',rfl⟩
    rw [upd_same,← e2]
    rfl
  · rintro σ H' ⟨kvs,v3,v4,k,hd',A,rfl⟩
    refine hc _ _ ?_
    clear hc c
    rw [List.length_append,xl,yl,← List.length_append,List.take_length] at A
    have kl:=A.len
    rw [List.length_append] at kl
    have sH:=same_keep s12 k fun b hb=>by rw [List.mem_singleton.mp hb]; exact hd
    and_intros
    refine ⟨.inr (.inr (.inl ⟨rfl,.inl ⟨_,hd'⟩⟩)),d,_,rfl,rfl,hd',fun v hv=>?_⟩
    have s3:=sH.new hv (o:=viewO v d)
    have eV:(upd H' v (viewO v d)) v = some (viewO v d):=upd_same
    have nv:d ≠ v:=fun z=>by subst z; rw [hd'] at hv; cases hv
    have ed3:(upd H' v (viewO v d)) d = some (.dK (thD kvs)):=by rw [upd_ne nv]; exact hd'
    generalize upd H' v _ = H3 at s3 eV ed3 ⊢
    refine ⟨v,d,kvs,rfl,eV,ed3,by omega,A.nd,fun H4 l ys zs s4 hl0 hl4 hp hup hlen hat=>?_⟩
    exact q H4 l ys zs (s3.trans s4) (s3.free1 hl0) hl4 (prs_of hlen fun i kv e=>by obtain ⟨t,a,b,_⟩:=hat i kv e; exact ⟨t,a,b⟩) (A.min hp hup)
def spCarMarks (K:PySem.W.Frag):Sp:=fun vs H Q _=>∃ (p p1 p2 p3 pr:Addr) (bs cs:List Addr) (ts:List V) (L h:Nat) (R0 R:List (List RwN)) (zs:List (List Nat × List Nat)) (ws:List (List Nat)),vs = [.ref p,.ref pr]∧StA H p p1 p2 p3 bs ts L h R0 zs ws∧H pr = some (.lst (cs.map V.ref))∧RowsC H cs R∧(∀ r ∈ R,RowsOk L r)∧R.length ≤ 100∧2 ≤ L∧L ≤ 26∧(∀ m ∈ zs.map (·.1) ++ ws,Mark L m∧m.length ≤ 30000)∧zs.length + ws.length < 64∧
  ∀ H' d kvs,Same H H'→H d = none→H' d = some (.dK kvs)→(∀ m ∈ zs.map (·.1) ++ ws,∃ v,valV kvs (Key.inr (txt m)) = some (oV v)∧CarA L R m v)→Q (.ref d) H'
def rdCarMarks (K:PySem.W.Frag):TS:=
    tSeq (tAsg tDNewT (gName 2))
      (tSeq (tAsg tDNewK (gName 3))
      (tSeq (tAsg (tOp rCat (tComp2 K (iList K (tOp (rIxT K) (tVar 0) (tC (.int 3)))) [] tYes (tVar 0)) (tOp (rIxT K) (tVar 0) (tC (.int 4)))) (gName 4))
      (tSeq (tFor (iList K (tCB (rSortSet K) (tCons (tVar 4) tNil))) (gName 5) (sDPut (tVar 3) (tVar 5) (tCall (spCarAll K) [] E0 (tCons (tOp (rIxT K) (tVar 0) (tC (.int 0))) (tCons (tVar 1) (tCons (tVar 5) (tCons (tVar 2) tNil)))))))
      (tRet (tVar 3)))))
def CMInv (p pr d1 d2 pm:Addr) (H:Hp) (L:Nat) (R:List (List RwN)) (ms:List (List Nat)):Nat→St→Hp→Prop:=fun i σ H'=>∃ (kv1:List (List Key × V)) (kv2:List (Key × V)) (v5:Option V),Keeps [d1,d2] H H'∧H' d1 = some (.dT kv1)∧StemsD L kv1∧kv1.length ≤ i * 100∧H' d2 = some (.dK kv2)∧kv2.length ≤ i∧(∀ m ∈ ms.take i,∃ v,valV kv2 (Key.inr (txt m)) = some (oV v)∧CarA L R m v)∧σ = [some (.ref p),some (.ref pr),some (.ref d1),some (.ref d2),some (.ref pm),v5]
theorem read_carMarks {K:PySem.W.Frag} {N:List Str} {vs:List V} {H:Hp} {Q:VK} {E:XK} (hN:N.length = 6) (h:spCarMarks K vs H Q E):rdCarMarks K { nx:=fun _ H'=>Q .non H',rt:=Q } (L2.start N vs) H:=by
  obtain ⟨p,p1,p2,p3,pr,bs,cs,ts,L,h,R0,R,zs,ws,rfl,A,hp,hR,O,few,hL,hL26,hM,h64,q⟩:=h
  have tl:=A.prs.len
  rw [List.length_map] at tl
  unfold rdCarMarks L2.start
  rw [hN]
  refine seq_set fun c hc=>?_
  simp? [tDNewT]
  refine fun d1 hd1=>hc _ _ ?_
  clear hc c
  have s1:=Same.up H hd1 (o:=.dT [])
  have e1:(upd H d1 (.dT [])) d1 = some (.dT []):=upd_same
  generalize upd H d1 _ = H1 at s1 e1 ⊢
  simp only [List.set_cons_zero,List.set_cons_succ,List.replicate_succ,List.replicate_zero,List.map_cons,List.map_nil,List.cons_append,List.nil_append]
  refine seq_set fun c hc=>?_
  simp? [tDNewK]
  refine fun d2 hd2=>hc _ _ ?_
  clear hc c
  have f2:=s1.free1 hd2
  have n12:d1 ≠ d2:=fun z=>by subst z; rw [e1] at hd2; cases hd2
  have s2:=s1.new hd2 (o:=.dK [])
  have e12:(upd H1 d2 (.dK [])) d1 = some (.dT []):=by rw [upd_ne n12]; exact e1
  have e2:(upd H1 d2 (.dK [])) d2 = some (.dK []):=upd_same
  generalize upd H1 d2 _ = H2 at s2 e12 e2 ⊢
  simp only [List.set_cons_zero,List.set_cons_succ]
  refine seq_set fun c hc=>?_
  suffices main:∀ H3 pm,Same H2 H3→H3 pm = some (.lst ((zs.map (·.1) ++ ws).map strV))→c (.ref pm) H3 by
    and_intros
    refine comp2_l (a:=p2) (xs:=ts) (fun Q h=>by and_intros; exact ixT_go (v:=.ref p2) (SqT.of (s2 _ _ A.top)) (by decide) rfl h) (SqL.of (s2 _ _ A.thi)) (fun i ys H'=>H' = H2∧ys = ((zs.map (·.1)).take i).map strV) ⟨rfl,rfl⟩ (fun i ys H' _ p=>⟨by rw [p.1]; exact SqL.of (s2 _ _ A.thi),by rw [p.2,List.length_map,List.length_take]; omega⟩) (by rw [sizeLine_eq]; omega) ?_ ?_
    · rintro i x ys H' hx ⟨rfl,rfl⟩
      obtain ⟨kv,t,ek,rfl,ht⟩:=(A.prs.same s2).get hx
      rw [List.getElem?_map] at ek
      obtain ⟨⟨m,th⟩,ek2,rfl⟩:=Option.map_eq_some_iff.mp ek
      refine ⟨t,strV m,strV th,rfl,SqT.of ht,fun W hW=>?_⟩
      and_intros
      refine hW _ _ ⟨rfl,?_⟩
      rw [List.take_add_one,List.getElem?_map,ek2,List.map_append]
      rfl
    · rintro ys H' ⟨rfl,rfl⟩ l hl
      have s3:=Same.up H' hl (o:=.lst (((zs.map (·.1)).take ts.length).map strV))
      have el:(upd H' l (.lst (((zs.map (·.1)).take ts.length).map strV))) l = some (.lst (((zs.map (·.1)).take ts.length).map strV)):=upd_same
      generalize upd H' l _ = H3 at s3 el ⊢
      rw [List.take_of_length_le (by rw [List.length_map]; omega)] at el
      refine ixT_go (v:=.ref p3) (SqT.of (s3 _ _ (s2 _ _ A.top))) (by decide) rfl ⟨l,p3,_,_,rfl,rfl,el,s3 _ _ (s2 _ _ A.tak),by rw [List.length_map,List.length_map,List.length_map,sizeLine_eq]; omega,fun o ho=>main _ o (s3.new ho) ?_⟩
      rw [upd_same,List.map_append]
  intro H3 pm s23 em
  refine hc _ _ ?_
  clear hc c
  have s3:=s2.trans s23
  simp only [List.set_cons_zero,List.set_cons_succ]
  refine seq_any fun c hc=>?_
  refine for_pre ?_
  and_intros
  refine ⟨pm,_,rfl,SqL.of em,by rw [List.length_append,List.length_map]; omega,fun H4 l ms s34 hl0 hl nd mem _=>?_⟩
  have s24:=s23.trans s34
  have s4:=s3.trans s34
  have ml:ms.length < 64:=by
    have:=nodup_len nd fun m hm=>(mem m).mp hm
    rw [List.length_append,List.length_map] at this
    omega
  have nl:¬ l ∈ [d1,d2]:=fun z=>by
    simp only [List.mem_cons,List.not_mem_nil,or_false] at z
    rcases z with rfl | rfl
    · rw [s24 _ _ e12] at hl; cases hl
    · rw [s24 _ _ e2] at hl; cases hl
  have npr:¬ pr ∈ [d1,d2]:=fun z=>by
    simp only [List.mem_cons,List.not_mem_nil,or_false] at z
    rcases z with rfl | rfl
    · rw [hp] at hd1; cases hd1
    · rw [hp] at f2; cases f2
  have np:¬ p ∈ [d1,d2]:=fun z=>by
    simp only [List.mem_cons,List.not_mem_nil,or_false] at z
    rcases z with rfl | rfl
    · rw [A.top] at hd1; cases hd1
    · rw [A.top] at f2; cases f2
  have nf:∀ f ∈ [d1,d2],(∀ xs,H4 f ≠ some (.lst xs))∧∀ xs,H4 f ≠ some (.tup xs):=fun f hf=>by
    simp only [List.mem_cons,List.not_mem_nil,or_false] at hf
    rcases hf with rfl | rfl
    · rw [s24 _ _ e12]; exact ⟨fun _ z=>(nomatch z),fun _ z=>(nomatch z)⟩
    · rw [s24 _ _ e2]; exact ⟨fun _ z=>(nomatch z),fun _ z=>(nomatch z)⟩
  refine for_l (a:=l) (xs:=ms.map strV) (fun Q h=>h) (SqL.of hl) (CMInv p pr d1 d2 pm H4 L R ms) ⟨[],[],none,fun _ _ e _=>e,s24 _ _ e12,StemsD.nil L,Nat.zero_le _,s24 _ _ e2,Nat.zero_le _,fun m h=>(nomatch h),rfl⟩ (fun i σ H' _ h=>?_) ?_ ?_
  · obtain ⟨_,_,_,k,_⟩:=h
    exact SqL.of (k _ _ hl nl)
  · rintro i x σ H' hx ⟨kv1,kv2,v5,k,hd1',st,l1,hd2',l2,all,rfl⟩
    rw [List.getElem?_map] at hx
    obtain ⟨m,hm,rfl⟩:=Option.map_eq_some_iff.mp hx
    have hi:i < ms.length:=(List.getElem?_eq_some_iff.mp hm).1
    have etk:ms.take (i + 1) = ms.take i ++ [m]:=by rw [List.take_add_one,hm]; rfl
    have Mm:=hM m ((mem m).mp (List.mem_of_getElem? hm))
    have hR':=(hR.same s4).keepF k nf
    simp? [sDPut]
    refine ixT_go (v:=.int L) (SqT.of (k _ _ (s4 _ _ A.top) np)) (by decide) rfl ⟨L,pr,d1,cs,R,m,kv1,rfl,hL,hL26,k _ _ (s4 _ _ hp) npr,hR',O,few,Mm.1,Mm.2,hd1',st,by omega,fun H5 v kv1' k5 hd5 st5 l5 car=>?_⟩
    have hd25:=k5 _ _ hd2' (by simpa using Ne.symm n12)
    refine ⟨_,DPut.k (k:=.inr (txt m)) hd25 (by rw [sizeLine_eq]; omega),kv1',putK kv2 (.inr (txt m)) (oV v),_,?_,by rw [upd_ne n12]; exact hd5,st5,by omega,upd_same,by have:=length_putK kv2 (Key.inr (txt m)) (oV v); omega,fun y hy=>?_,rfl⟩
    · exact (Keeps.trans k (fun b o e n=>k5 b o e fun z=>n (by rw [List.mem_singleton.mp z]; exact List.mem_cons_self))).upd (.inl (by simp))
    · rw [etk] at hy
      rw [valV_put]
      by_cases e:y = m
      · subst e
        exact ⟨v,by rw [if_pos rfl],car⟩
      · rw [if_neg (fun z=>e (txt_inj.mp (by injection z)))]
        rcases List.mem_append.mp hy with hy | hy
        · exact all y hy
        · exact absurd (List.mem_singleton.mp hy) e
  · rintro σ H' ⟨kv1,kv2,v5,k,hd1',st,l1,hd2',l2,all,rfl⟩
    refine hc _ _ ?_
    rw [List.length_map,List.take_length] at all
    and_intros
    refine q H' d2 kv2 (same_keep s4 k fun b hb=>?_) f2 hd2' fun m hm=>all m ((mem m).mpr hm)
    simp only [List.mem_cons,List.not_mem_nil,or_false] at hb
    rcases hb with rfl | rfl
    · exact hd1
    · exact f2
structure Laid (L:Nat) (D:List (List RwN)) (zs:List (List Nat × List Nat)) (ws:List (List Nat)) (zs':List (List Nat × List Nat)) (ws':List (List Nat)) (xs:List (List Nat × List Nat)) (ks:List (List Nat)):Prop where
  th:∃ S,MinOf S xs∧∀ q,q ∈ S ↔ (∃ z ∈ zs,CarA L D z.1 (some q.1)∧z.2 = q.2) ∨ q ∈ zs'
  kup:ks.Pairwise (· < ·)
  tk:∀ m,m ∈ ks ↔ (∃ w ∈ ws,CarA L D w (some m)) ∨ m ∈ ws'
  xlen:xs.length ≤ zs.length + zs'.length
  klen:ks.length ≤ ws.length + ws'.length
theorem Laid.one {L:Nat} {D:List (List RwN)} {zs zs' xs ys:List (List Nat × List Nat)} {ws ws' ks js:List (List Nat)} (A:Laid L D zs ws zs' ws' xs ks) (B:Laid L D zs ws zs' ws' ys js):xs = ys∧ks = js:=by
  obtain ⟨S,M,e⟩:=A.th
  obtain ⟨S',M',e'⟩:=B.th
  exact ⟨M.one M' fun q=>by rw [e,e'],up_set A.kup B.kup fun m=>by rw [A.tk,B.tk]⟩
structure LayOk (L n:Nat) (R:List (List RwN)) (zs:List (List Nat × List Nat)) (ws:List (List Nat)) (zs':List (List Nat × List Nat)) (ws':List (List Nat)):Prop where
  l2:2 ≤ L
  l26:L ≤ 26
  ren:n ≤ R.length
  few:R.length ≤ 100
  rows:∀ r ∈ R,RowsOk L r
  marks:∀ m ∈ zs.map (·.1) ++ ws,Mark L m∧m.length ≤ 30000
  z64:zs.length + ws.length < 64
  t64:zs.length + zs'.length < 64
  k64:ws.length + ws'.length < 64
def LaidP (p q:Addr) (H:Hp) (Q:VK) (n:Nat) (R:List (List RwN)):Prop:=∃ (p1 p2 p3 q1 q2 q3:Addr) (bs cs:List Addr) (ts us:List V) (L h:Nat) (zs zs':List (List Nat × List Nat)) (ws ws':List (List Nat)),StA H p p1 p2 p3 bs ts L h (R.take n) zs ws∧StA H q q1 q2 q3 cs us L h R zs' ws'∧LayOk L n R zs ws zs' ws'∧
  ∀ H' o o1 o2 o3 ds vs xs ks,Same H H'→StA H' o o1 o2 o3 ds vs L h R xs ks→(o :: o1 :: o2 :: o3 :: ds).Nodup→(∀ b ∈ o :: o1 :: o2 :: o3 :: ds,H b = none)→Laid L (R.drop n) zs ws zs' ws' xs ks→Q (.ref o) H'
def spLaid0 (K:PySem.W.Frag):Sp:=fun vs H Q _=>∃ (p q:Addr) (n:Nat) (R:List (List RwN)),vs = [.ref p,.ref q]∧LaidP p q H Q n R
def spLaid (K:PySem.W.Frag):Sp:=fun vs H Q _=>∃ (p q:Addr) (n:Nat) (R:List (List RwN)),vs = [.ref p,.ref q]∧(LaidP p q H Q n R ∨ (n < R.length∧LaidP q p H Q n R))
def rdLaidR (K : PySem.W.Frag) : TS := tSeq (tDrop (tCall (spMeet K) [] E0 (tCons (tVar 0) (tCons (tVar 1) tNil))))
      (tSeq (tAsg (tCall (spCarMarks K) [] E0 (tCons (tVar 0) (tCons (tSl (rSlL K) (tOp (rIxT K) (tVar 1) (tC (.int 2))) (tPart (tCB (rLenL K) (tCons (tOp (rIxT K) (tVar 0) (tC (.int 2))) tNil))) tNoPart) tNil))) (gName 2))
      (tSeq (tCompSet2 K 3 (iList K (tOp (rIxT K) (tVar 0) (tC (.int 3)))) [2] (tB (tNotN (tDGet (tVar 2) (tVar 0)))) (tTup (tCons (tDGet (tVar 2) (tVar 0)) (tCons (tVar 1) tNil))))
      (tSeq (tCompSet 4 (iList K (tOp (rIxT K) (tVar 0) (tC (.int 4)))) [2] (tB (tNotN (tDGet (tVar 1) (tVar 0)))) (tDGet (tVar 1) (tVar 0)))
      (tRet (tCall spStateOf [] E0 (tCons (tOp (rIxT K) (tVar 1) (tC (.int 0))) (tCons (tOp (rIxT K) (tVar 1) (tC (.int 1))) (tCons (tOp (rIxT K) (tVar 1) (tC (.int 2))) (tCons (tCall (spAllThings K) [] E0 (tCons (tVar 3) (tCons (tOp (rIxT K) (tVar 1) (tC (.int 3))) tNil))) (tCons (tCB (rSortSet K) (tCons (tOp rCat (tVar 4) (tOp (rIxT K) (tVar 1) (tC (.int 4)))) tNil)) tNil))))))))))
def tLonger (K:PySem.W.Frag):TT:=tTest (tOp rGtI (tCB (rLenL K) (tCons (tOp (rIxT K) (tVar 0) (tC (.int 2))) tNil)) (tCB (rLenL K) (tCons (tOp (rIxT K) (tVar 1) (tC (.int 2))) tNil)))
def rdLaid0 (K:PySem.W.Frag):TS:=tSeq (tIfS (tLonger K) (tNever) (tNext)) (rdLaidR K)
def rdLaid (K:PySem.W.Frag):TS:=tSeq (tIfS (tLonger K) (tRet (tCall (spLaid0 K) [] E0 (tCons (tVar 1) (tCons (tVar 0) tNil)))) (tNext)) (rdLaidR K)
def Carried (L:Nat) (D:List (List RwN)) (zs S:List (List Nat × List Nat)):Prop:=(∀ q,q ∈ S ↔ ∃ z ∈ zs,CarA L D z.1 (some q.1)∧z.2 = q.2)∧S.length ≤ zs.length
def CarriedK (L:Nat) (D:List (List RwN)) (ws ks:List (List Nat)):Prop:=(∀ m,m ∈ ks ↔ ∃ w ∈ ws,CarA L D w (some m))∧ks.length ≤ ws.length
theorem Carried.add {L:Nat} {D:List (List RwN)} {zs S:List (List Nat × List Nat)} (C:Carried L D zs S) {m y t:List Nat} (hL:2 ≤ L) (O:∀ r ∈ D,RowsOk L r) (c:CarA L D m (some y)):Carried L D (zs ++ [(m,t)]) (S ++ [(y,t)]):=by
  refine ⟨fun q=>?_,by rw [List.length_append,List.length_append]; have:=C.2; simp; omega⟩
  rw [List.mem_append,C.1 q]
  constructor
  · rintro (⟨z,hz,e⟩ | h)
    · exact ⟨z,List.mem_append_left _ hz,e⟩
    · rw [List.mem_singleton.mp h]; exact ⟨(m,t),List.mem_append_right _ (by simp),c,rfl⟩
  · rintro ⟨z,hz,e1,e2⟩
    rcases List.mem_append.mp hz with hz | hz
    · exact .inl ⟨z,hz,e1,e2⟩
    · rw [List.mem_singleton.mp hz] at e1 e2
      have e3:=CarA.one hL O e1 c
      injection e3 with e3
      refine .inr (List.mem_singleton.mpr (Prod.ext e3 e2.symm))
theorem Carried.skip {L:Nat} {D:List (List RwN)} {zs S:List (List Nat × List Nat)} (C:Carried L D zs S) {m t:List Nat} (hL:2 ≤ L) (O:∀ r ∈ D,RowsOk L r) (c:CarA L D m none):Carried L D (zs ++ [(m,t)]) S:=by
  refine ⟨fun q=>?_,by rw [List.length_append]; have:=C.2; omega⟩
  rw [C.1 q]
  constructor
  · rintro ⟨z,hz,e⟩
    exact ⟨z,List.mem_append_left _ hz,e⟩
  · rintro ⟨z,hz,e1,e2⟩
    rcases List.mem_append.mp hz with hz | hz
    · exact ⟨z,hz,e1,e2⟩
    · rw [List.mem_singleton.mp hz] at e1
      cases CarA.one hL O e1 c
theorem CarriedK.add {L:Nat} {D:List (List RwN)} {zs S:List (List Nat)} (C:CarriedK L D zs S) {m y:List Nat} (hL:2 ≤ L) (O:∀ r ∈ D,RowsOk L r) (c:CarA L D m (some y)):CarriedK L D (zs ++ [m]) (S ++ [y]):=by
  refine ⟨fun q=>?_,by rw [List.length_append,List.length_append]; have:=C.2; simp; omega⟩
  rw [List.mem_append,C.1 q]
  constructor
  · rintro (⟨z,hz,e⟩ | h)
    · exact ⟨z,List.mem_append_left _ hz,e⟩
    · rw [List.mem_singleton.mp h]; exact ⟨m,List.mem_append_right _ (by simp),c⟩
  · rintro ⟨z,hz,e1⟩
    rcases List.mem_append.mp hz with hz | hz
    · exact .inl ⟨z,hz,e1⟩
    · rw [List.mem_singleton.mp hz] at e1
      have e3:=CarA.one hL O e1 c
      injection e3 with e3
      exact .inr (List.mem_singleton.mpr e3)
theorem CarriedK.skip {L:Nat} {D:List (List RwN)} {zs S:List (List Nat)} (C:CarriedK L D zs S) {m:List Nat} (hL:2 ≤ L) (O:∀ r ∈ D,RowsOk L r) (c:CarA L D m none):CarriedK L D (zs ++ [m]) S:=by
  refine ⟨fun q=>?_,by rw [List.length_append]; have:=C.2; omega⟩
  rw [C.1 q]
  constructor
  · rintro ⟨z,hz,e⟩
    exact ⟨z,List.mem_append_left _ hz,e⟩
  · rintro ⟨z,hz,e1⟩
    rcases List.mem_append.mp hz with hz | hz
    · exact ⟨z,hz,e1⟩
    · rw [List.mem_singleton.mp hz] at e1
      cases CarA.one hL O e1 c
theorem MinOf.len {S zs:List (List Nat × List Nat)} (M:MinOf S zs):zs.length ≤ S.length:=by
  have:=nodup_len (nodup_up M.up) fun m hm=>by
    obtain ⟨z,hz,rfl⟩:=List.mem_map.mp hm
    exact List.mem_map_of_mem (f:=(·.1)) (M.mem z hz)
  rw [List.length_map,List.length_map] at this
  exact this
def LTInv (H:Hp) (L:Nat) (D:List (List RwN)) (zs:List (List Nat × List Nat)):Nat→List V→Hp→Prop:=fun i ys H'=>∃ S,Same H H'∧Prs H' ys (S.map stP)∧Carried L D (zs.take i) S
def LKInv (H:Hp) (L:Nat) (D:List (List RwN)) (ws:List (List Nat)):Nat→List V→Hp→Prop:=fun i ys H'=>∃ ks,H' = H∧ys = ks.map strV∧CarriedK L D (ws.take i) ks
theorem seq_cset2 {K:PySem.W.Frag} {wi:TI} {fs:List Nat} {tt:TT} {te:TE} {i:Nat} {C:TS} {D:Ends} {σ:St} {H:Hp} (h:∀ c:V→Hp→Prop,(∀ x H1,C D (σ.set i (some x)) H1→c x H1)→tComp2 K wi fs tt te σ H c):tSeq (tCompSet2 K i wi fs tt te) C D σ H:=h _ fun _ _ z=>z
theorem read_laidR {K:PySem.W.Frag} {p q:Addr} {n:Nat} {R:List (List RwN)} {H:Hp} {Q:VK} {v2 v3 v4:Option V} {nx:St→Hp→Prop} (h:LaidP p q H Q n R):rdLaidR K { nx:=nx,rt:=Q } [some (.ref p),some (.ref q),v2,v3,v4] H:=by
  obtain ⟨p1,p2,p3,q1,q2,q3,bs,cs,ts,us,L,h,zs,zs',ws,ws',A,B,O,k⟩:=h
  have hL:=O.l2
  have OD:∀ r ∈ R.drop n,RowsOk L r:=fun r hr=>O.rows r (List.drop_subset _ _ hr)
  have bl:=A.row.len
  have cl:=B.row.len
  have tl:=A.prs.len
  rw [List.length_map] at tl
  have hn:=O.ren
  have few:=O.few
  have z64:=O.z64
  have t64:=O.t64
  have k64:=O.k64
  rw [List.length_take,Nat.min_eq_left hn] at bl
  unfold rdLaidR
  refine seq_any fun c hc=>?_
  and_intros
  refine ⟨p,q,p1,p2,p3,q1,q2,q3,bs,cs,ts,us,L,h,n,R,zs,zs',ws,ws',rfl,A,B,hn,few,O.l26,O.rows,fun H1 s1=>hc _ _ ?_⟩
  clear hc c
  have A1:=A.same s1
  have B1:=B.same s1
  refine seq_set fun c hc=>?_
  and_intros
  refine ixT_go (v:=.ref q1) (SqT.of B1.top) (by decide) rfl (ixT_go (v:=.ref p1) (SqT.of A1.top) (by decide) rfl (lenL_go (SqL.of A1.ren) ?_))
  rw [List.length_map,bl]
  refine ⟨_,rfl,slL_go (SqL.of B1.ren) fun s hs=>?_⟩
  rw [cutV_from (by rw [List.length_map]; omega),← List.map_drop]
  have s12:=Same.up H1 hs (o:=.lst ((cs.drop n).map V.ref))
  have es:(upd H1 s (.lst ((cs.drop n).map V.ref))) s = some (.lst ((cs.drop n).map V.ref)):=upd_same
  generalize upd H1 s _ = H2 at s12 es ⊢
  have s2:=s1.trans s12
  refine ⟨p,p1,p2,p3,s,bs,cs.drop n,ts,L,h,R.take n,R.drop n,zs,ws,rfl,A.same s2,es,(B.row.same s2).drop n,OD,by rw [List.length_drop]; omega,hL,O.l26,O.marks,z64,fun H3 d kvs s23 hd0 hd all=>hc _ _ ?_⟩
  clear hc c
  have s3:=s2.trans s23
  have A3:=A.same s3
  simp only [List.set_cons_zero,List.set_cons_succ]
  refine seq_cset2 fun c hc=>?_
  refine comp2_l (a:=p2) (xs:=ts) (fun Q h=>by and_intros; exact ixT_go (v:=.ref p2) (SqT.of A3.top) (by decide) rfl h) (SqL.of A3.thi) (LTInv H3 L (R.drop n) zs) ⟨[],Same.refl _,trivial,⟨fun q=>⟨fun h=>(nomatch h),fun ⟨z,h,_⟩=>(nomatch h)⟩,Nat.zero_le _⟩⟩ (fun i ys H' hi p=>?_) (by rw [sizeLine_eq]; omega) ?_ ?_
  · obtain ⟨S,s',pr,C⟩:=p
    have:=pr.len
    have c2:=C.2
    rw [List.length_take] at c2
    rw [List.length_map] at this
    exact ⟨SqL.of (s' _ _ A3.thi),by omega⟩
  · rintro i x ys H' hx ⟨S,s',pr,C⟩
    obtain ⟨kv,t,ek,rfl,ht⟩:=A3.prs.get hx
    rw [List.getElem?_map] at ek
    obtain ⟨⟨m,th⟩,ek2,rfl⟩:=Option.map_eq_some_iff.mp ek
    have etk:zs.take (i + 1) = zs.take i ++ [(m,th)]:=by rw [List.take_add_one,ek2]; rfl
    refine ⟨t,strV m,strV th,rfl,SqT.of (s' _ _ ht),fun W hW=>?_⟩
    obtain ⟨v,ev,cv⟩:=all m (List.mem_append_left _ (List.mem_map_of_mem (f:=(·.1)) (List.mem_of_getElem? ek2)))
    have g:DGet H' d (strV m) (some (oV v)):=by rw [← ev]; exact DGet.k (k:=.inr (txt m)) (s' _ _ hd)
    simp? [tDGet]
    refine ⟨oV v,g,?_⟩
    cases v with
    | none=>
      simp? [oV]
      exact hW _ _ ⟨S,s',pr,by rw [etk]; exact C.skip hL OD cv⟩
    | some y=>
      simp? [oV]
      refine ⟨strV y,g,by decide,fun o ho=>hW _ _ ⟨S ++ [(y,th)],s'.new ho,?_,by rw [etk]; exact C.add hL OD cv⟩⟩
      rw [List.map_append]
      refine (pr.same (Same.up H' ho)).app ⟨⟨o,rfl,?_⟩,trivial⟩
      rw [upd_same]
      rfl
  rintro ys H4a ⟨S,s34a,prS,C⟩ l3 hl3
  refine hc _ _ ?_
  clear hc c
  rw [tl,List.take_length] at C
  have s34:=s34a.new hl3 (o:=.lst ys)
  have e3:(upd H4a l3 (.lst ys)) l3 = some (.lst ys):=upd_same
  have prS4:=prS.same (Same.up H4a hl3 (o:=.lst ys))
  generalize upd H4a l3 _ = H4 at s34 e3 prS4 ⊢
  have s4:=s3.trans s34
  have A4:=A.same s4
  simp only [List.set_cons_zero,List.set_cons_succ]
  refine seq_cset fun c hc=>?_
  refine comp_l (a:=p3) (xs:=ws.map strV) (fun Q h=>by and_intros; exact ixT_go (v:=.ref p3) (SqT.of A4.top) (by decide) rfl h) (SqL.of A4.tak) (LKInv H4 L (R.drop n) ws) ⟨[],rfl,rfl,⟨fun q=>⟨fun h=>(nomatch h),fun ⟨z,h,_⟩=>(nomatch h)⟩,Nat.zero_le _⟩⟩ (fun i ys H' hi p=>?_) (by rw [List.length_map,sizeLine_eq]; omega) ?_ ?_
  · obtain ⟨ks,rfl,rfl,C⟩:=p
    have c2:=C.2
    rw [List.length_take] at c2
    exact ⟨SqL.of A4.tak,by rw [List.length_map]; omega⟩
  · rintro i x ys H' hx ⟨ks,rfl,rfl,CK⟩ W hW
    rw [List.getElem?_map] at hx
    obtain ⟨m,hm,rfl⟩:=Option.map_eq_some_iff.mp hx
    have etk:ws.take (i + 1) = ws.take i ++ [m]:=by rw [List.take_add_one,hm]; rfl
    obtain ⟨v,ev,cv⟩:=all m (List.mem_append_right _ (List.mem_of_getElem? hm))
    have g:DGet H' d (strV m) (some (oV v)):=by rw [← ev]; exact DGet.k (k:=.inr (txt m)) (s34 _ _ hd)
    simp? [tDGet]
    refine ⟨oV v,g,?_⟩
    cases v with
    | none=>
      simp? [oV]
      exact hW _ _ ⟨ks,rfl,rfl,by rw [etk]; exact CK.skip hL OD cv⟩
    | some y=>
      simp? [oV]
      exact ⟨strV y,g,hW _ _ ⟨ks ++ [y],rfl,by rw [List.map_append]; rfl,by rw [etk]; exact CK.add hL OD cv⟩⟩
  rintro ys4 H' ⟨ks,rfl,rfl,CK⟩ l4 hl4
  refine hc _ _ ?_
  clear hc c
  rw [List.length_map,List.take_length] at CK
  have s45:=Same.up H' hl4 (o:=.lst (ks.map strV))
  have e4:(upd H' l4 (.lst (ks.map strV))) l4 = some (.lst (ks.map strV)):=upd_same
  generalize upd H' l4 _ = H5 at s45 e4 ⊢
  have s5:=s4.trans s45
  have B5:=B.same s5
  have cS:=C.2
  have cK:=CK.2
  simp? [List.set_cons_zero,List.set_cons_succ]
  refine ixT_go (v:=.int L) (SqT.of B5.top) (by decide) rfl (ixT_go (v:=.int h) (SqT.of B5.top) (by decide) rfl (ixT_go (v:=.ref q1) (SqT.of B5.top) (by decide) rfl (ixT_go (v:=.ref q2) (SqT.of B5.top) (by decide) rfl ?_)))
  refine ⟨l3,q2,ys,us,S,zs',rfl,s45 _ _ e3,prS4.same s45,B5.thi,B5.prs,by omega,fun H6 o6 vs6 xs6 s56 ho6 eo6 pr6 M6=>?_⟩
  have s6:=s5.trans s56
  have B6:=B.same s6
  refine ixT_go (v:=.ref q3) (SqT.of B6.top) (by decide) rfl ⟨l4,q3,_,_,rfl,rfl,s56 _ _ e4,B6.tak,by rw [List.length_map,List.length_map,sizeLine_eq]; omega,fun l7 hl7=>?_⟩
  have s67:=Same.up H6 hl7 (o:=.lst (ks.map strV ++ ws'.map strV))
  have e7:(upd H6 l7 (.lst (ks.map strV ++ ws'.map strV))) l7 = some (.lst ((ks ++ ws').map strV)):=by rw [upd_same,List.map_append]
  generalize upd H6 l7 _ = H7 at s67 e7 ⊢
  refine ⟨l7,ks ++ ws',rfl,SqL.of e7,by rw [List.length_append]; omega,fun H8 l8 js s78 hl80 hl8 nd mem le=>?_⟩
  have s68:=s67.trans s78
  have s8:=s6.trans s68
  have B8:=B.same s8
  refine ⟨L,h,q1,o6,l8,cs,R,vs6,xs6,js,rfl,B8.ren,B8.row,s68 _ _ eo6,pr6.same s68,hl8,by omega,fun H9 o o1 o2 o3 ds s89 SA ndo fr=>?_⟩
  refine k H9 o o1 o2 o3 ds vs6 xs6 js (s8.trans s89) SA ndo (fun b hb=>s8.free1 (fr b hb)) ⟨⟨_,M6,fun x=>?_⟩,lt_of_sorted le nd,fun m=>?_,?_,?_⟩
  · rw [List.mem_append,C.1 x]
  · rw [mem,List.mem_append,CK.1 m]
  · have:=M6.len
    rw [List.length_append] at this
    omega
  · have:=nodup_len nd fun m hm=>(mem m).mp hm
    rw [List.length_append] at this
    omega
theorem longer {K:PySem.W.Frag} {p q p1 p2 p3 q1 q2 q3:Addr} {bs cs:List Addr} {ts us:List V} {L h:Nat} {R R':List (List RwN)} {zs zs':List (List Nat × List Nat)} {ws ws':List (List Nat)} {H:Hp} {v2 v3 v4:Option V} {Q:Bool→Hp→Prop} (A:StA H p p1 p2 p3 bs ts L h R zs ws) (B:StA H q q1 q2 q3 cs us L h R' zs' ws') (k:Q (decide (R'.length < R.length)) H):tLonger K [some (.ref p),some (.ref q),v2,v3,v4] H Q:=by
  have bl:=A.row.len
  have cl:=B.row.len
  unfold tLonger
  and_intros
  refine ixT_go (v:=.ref p1) (SqT.of A.top) (by decide) rfl (lenL_go (SqL.of A.ren) (ixT_go (v:=.ref q1) (SqT.of B.top) (by decide) rfl (lenL_go (SqL.of B.ren) ?_)))
  rw [List.length_map,List.length_map,bl,cl]
  refine ⟨_,rfl,_,rfl,?_⟩
  rw [show decide ((R'.length:Int) < (R.length:Int)) = decide (R'.length < R.length) by simp]
  exact k
theorem read_laid0 {K:PySem.W.Frag} {N:List Str} {vs:List V} {H:Hp} {Q:VK} {E:XK} (hN:N.length = 5) (h:spLaid0 K vs H Q E):rdLaid0 K { nx:=fun _ H'=>Q .non H',rt:=Q } (L2.start N vs) H:=by
  obtain ⟨p,q,n,R,rfl,P⟩:=h
  unfold rdLaid0 L2.start
  rw [hN]
  obtain ⟨p1,p2,p3,q1,q2,q3,bs,cs,ts,us,L,h,zs,zs',ws,ws',A,B,O,_⟩:=id P
  refine seq_any fun c hc=>?_
  refine longer A B ?_
  rw [decide_eq_false (by rw [List.length_take]; omega)]
  exact hc _ _ (read_laidR P)
theorem read_laid {K:PySem.W.Frag} {N:List Str} {vs:List V} {H:Hp} {Q:VK} {E:XK} (hN:N.length = 5) (h:spLaid K vs H Q E):rdLaid K { nx:=fun _ H'=>Q .non H',rt:=Q } (L2.start N vs) H:=by
  obtain ⟨p,q,n,R,rfl,P⟩:=h
  unfold rdLaid L2.start
  rw [hN]
  refine seq_any fun c hc=>?_
  rcases P with P | ⟨lt,P⟩
  · obtain ⟨p1,p2,p3,q1,q2,q3,bs,cs,ts,us,L,h,zs,zs',ws,ws',A,B,O,_⟩:=id P
    refine longer A B ?_
    rw [decide_eq_false (by rw [List.length_take]; omega)]
    exact hc _ _ (read_laidR P)
  · obtain ⟨p1,p2,p3,q1,q2,q3,bs,cs,ts,us,L,h,zs,zs',ws,ws',A,B,O,_⟩:=id P
    refine longer B A ?_
    rw [decide_eq_true (by rw [List.length_take]; omega)]
    and_intros
    exact ⟨q,p,n,R,rfl,P⟩
section
variable {L n:Nat} {lo hi:Option (List Nat)}
def numsS (L:Nat) (lo hi:Option (List Nat)) (n:Nat):List Nat:=(List.range' (loN L lo n) (highO L hi n - loN L lo n)).filter (ow L (endsL L 1 0))
def keepS (L:Nat) (hi:Option (List Nat)) (n w:Nat):Bool:=match hi with | none=>true | some u=>decide (u.take n ≠ low L w n)
theorem hands1 (hL:2 ≤ L) (hL26:L ≤ 26):Hands L 1 0:=⟨hL,hL26,by decide,by omega⟩
theorem oVn:oV none = V.non:=rfl
theorem oVs (l:List Nat):oV (some l) = V.str (txt l):=rfl
theorem low_val_is {L w n:Nat} (hL:0 < L) (h:w < L ^ n):val L (low L w n) n = w:=by rw [low_val_eq hL,Nat.mod_eq_of_lt h]
theorem nums_stems (hL:2 ≤ L) (M:MarksOk L lo hi) (hn:1 ≤ n):(numsH L 1 0 lo hi n).filter (keepS L hi n) = numsS L lo hi n:=by
  have hL0:0 < L:=by omega
  unfold numsH numsS
  cases hi with
  | none=>
    exact List.filter_eq_self.mpr fun w _=>rfl
  | some u=>
    obtain ⟨Mu,_⟩:=M.mhi u rfl
    have hv:val L u n < L ^ n:=val_lt hL0 n Mu.ls
    have keep:∀ w,w < val L u n→keepS L (some u) n w = true:=fun w hw=>decide_eq_true fun z=>by
      have e1:=val_take L u n
      rw [z,low_val_is hL0 (by omega)] at e1
      omega
    have h0:highO L (some u) n = val L u n:=rfl
    have h1:hiN L (some u) n = if n < u.length then val L u n + 1 else val L u n:=rfl
    rw [h0,h1]
    have base:((List.range' (loN L lo n) (val L u n - loN L lo n)).filter (ow L (endsL L 1 0))).filter (keepS L (some u) n) = (List.range' (loN L lo n) (val L u n - loN L lo n)).filter (ow L (endsL L 1 0)):=by
      refine List.filter_eq_self.mpr fun w hw=>keep w ?_
      obtain ⟨a1,a2⟩:=List.mem_range'_1.mp (List.mem_filter.mp hw).1
      omega
    by_cases hlt:n < u.length
    · rw [if_pos hlt]
      rcases Nat.lt_or_ge (val L u n) (loN L lo n) with z | z
      · rw [show val L u n + 1 - loN L lo n = 0 by omega,show val L u n - loN L lo n = 0 by omega]
        rfl
      · rw [show val L u n + 1 - loN L lo n = (val L u n - loN L lo n) + 1 by omega,List.range'_concat,List.filter_append,List.filter_append,base]
        rw [show loN L lo n + 1 * (val L u n - loN L lo n) = val L u n by omega]
        have last:List.filter (keepS L (some u) n) (List.filter (ow L (endsL L 1 0)) [val L u n]) = []:=by
          refine List.filter_eq_nil_iff.mpr fun w hw=>?_
          obtain ⟨w1,w2⟩:=List.mem_filter.mp hw
          obtain rfl:=List.mem_singleton.mp w1
          have w3:val L u n % L ≠ 0:=(own_all hL0).mp w2
          obtain ⟨n',rfl⟩:∃ n',n = n' + 1:=⟨n - 1,by omega⟩
          have e:u.take (n' + 1) = low L (val L u (n' + 1)) (n' + 1):=by
            refine val_inj hL0 (n' + 1) (fun c hc=>Mu.ls c (List.take_subset _ _ hc)) (low_ls hL0 _ _) ?_ ?_ (by rw [List.length_take]; omega) (by rw [low_length]; omega) (by rw [val_take,low_val_is hL0 hv])
            · intro c hc
              rw [last_take hL0 Mu hlt] at hc
              injection hc with hc
              omega
            · intro c hc
              rw [low_last hL0] at hc
              injection hc with hc
              omega
          show ¬ decide (u.take (n' + 1) ≠ low L (val L u (n' + 1)) (n' + 1)) = true
          rw [decide_eq_true_eq]
          exact fun z=>z e
        rw [last,List.append_nil]
    · rw [if_neg hlt]
      exact base
theorem stems_len (hL:2 ≤ L):((numsS L lo hi n).length:Int) = max 0 (roomB false L (endsL L 1 0) lo hi n):=by
  have E:=ends_ok (K:=L) (h:=1) (j:=0) (by decide) (by omega)
  have hL0:0 < L:=by omega
  have er:roomB false L (endsL L 1 0) lo hi n = (ob L (endsL L 1 0) (highO L hi n):Nat) - (ob L (endsL L 1 0) (loN L lo n):Nat):=rfl
  rw [er]
  unfold numsS
  rcases Nat.le_total (loN L lo n) (highO L hi n) with z | z
  · rw [seg hL0 E z,List.length_map,List.length_range']
    have:=ob_mono hL0 E z
    omega
  · rw [show highO L hi n - loN L lo n = 0 by omega]
    have:=ob_mono hL0 E z
    simp only [List.range'_zero,List.filter_nil,List.length_nil]
    omega
theorem stems_at {k:Nat} (hL:2 ≤ L) (hk:k < (numsS L lo hi n).length):(numsS L lo hi n)[k]? = some (nth L (endsL L 1 0) (ob L (endsL L 1 0) (loN L lo n) + k)):=by
  have E:=ends_ok (K:=L) (h:=1) (j:=0) (by decide) (by omega)
  have hL0:0 < L:=by omega
  unfold numsS at hk ⊢
  rcases Nat.le_total (loN L lo n) (highO L hi n) with z | z
  · rw [seg hL0 E z] at hk ⊢
    rw [List.length_map,List.length_range'] at hk
    rw [List.getElem?_map,List.getElem?_range' hk,Nat.one_mul]
    rfl
  · rw [show highO L hi n - loN L lo n = 0 by omega] at hk
    simp at hk
theorem few_nextS (hL2:2 ≤ L) (hL26:L ≤ 26) (M:MarksOk L lo hi) (hr:roomB false L (endsL L 1 0) lo hi n < 1):hiN L hi (n + 1) ≤ loN L lo (n + 1) + 90000:=by
  have E:=ends_ok (K:=L) (h:=1) (j:=0) (by decide) (by omega)
  have hL0:0 < L:=by omega
  have er:roomB false L (endsL L 1 0) lo hi n = (ob L (endsL L 1 0) (highO L hi n):Nat) - (ob L (endsL L 1 0) (loN L lo n):Nat):=rfl
  rw [er] at hr
  have near:highO L hi n < loN L lo n + 2 * L:=by
    refine Classical.byContradiction fun z=>?_
    have d1:=Nat.div_add_mod (loN L lo n) L
    have d2:=Nat.mod_lt (loN L lo n) hL0
    have b:=ob_blocks hL0 E (loN L lo n / L + 1) 1
    have e1:(loN L lo n / L + 1) * L = L * (loN L lo n / L) + L:=by rw [Nat.add_mul,Nat.one_mul,Nat.mul_comm]
    have e2:(loN L lo n / L + 1 + 1) * L = L * (loN L lo n / L) + L + L:=by rw [Nat.add_mul,e1,Nat.one_mul]
    rw [e1,e2] at b
    have m1:=ob_mono hL0 E (show loN L lo n ≤ L * (loN L lo n / L) + L + 1 by omega)
    have m2:=ob_mono hL0 E (show L * (loN L lo n / L) + L + L ≤ highO L hi n by omega)
    omega
  have h1:hiN L hi (n + 1) ≤ highO L hi (n + 1) + 1:=by
    cases hi with
    | none=>exact Nat.le_succ _
    | some u=>
      show (if n + 1 < u.length then _ else _) ≤ _
      split <;> omega
  have f1:=figO_lt hL0 (o:=hi) (n:=n) fun m e=>(M.mhi m e).1.ls
  rw [highO_succ] at h1
  have e3:loN L lo (n + 1) = valO L lo n * L + figO lo n + 1:=by show valO L lo (n + 1) + 1 = _; rw [valO_succ]
  have e4:loN L lo n = valO L lo n + 1:=rfl
  have m3:highO L hi n * L ≤ (valO L lo n + 2 * L + 1) * L:=Nat.mul_le_mul_right L (by omega)
  have m4:(valO L lo n + 2 * L + 1) * L = valO L lo n * L + (2 * L) * L + L:=by rw [Nat.add_mul,Nat.add_mul,Nat.one_mul]
  have m5:(2 * L) * L ≤ 52 * 26:=Nat.mul_le_mul (by omega) hL26
  omega
theorem cutL_toN (l:List Nat) (k:Nat):cutL l none (some (k:Int)) = l.take k:=by
  unfold cutL
  rw [HT.sIx_none,HT.sIx_nat,List.drop_zero,Nat.sub_zero]
  rcases Nat.le_total k l.length with z | z
  · rw [Nat.min_eq_left z]
  · rw [Nat.min_eq_right z,List.take_length,List.take_of_length_le z]
theorem stem_mid (hL:2 ≤ L) (M:MarksOk L lo hi) (ok:OkLH lo hi) (hn:1 ≤ n) (ne:numsS L lo hi n ≠ []) (less:∀ m,1 ≤ m→m < n→roomB false L (endsL L 1 0) lo hi m < 1) :
    ∃ w,(numsS L lo hi n)[((numsS L lo hi n).length - 1) / 2]? = some w∧Stem L lo hi n w (low L w n):=by
  have E:=ends_ok (K:=L) (h:=1) (j:=0) (by decide) (by omega)
  have hL0:0 < L:=by omega
  have pos:0 < (numsS L lo hi n).length:=List.length_pos_iff.mpr ne
  have nl:=stems_len (n:=n) (lo:=lo) (hi:=hi) hL
  have at_:=stems_at (n:=n) (lo:=lo) (hi:=hi) (k:=((numsS L lo hi n).length - 1) / 2) hL (by omega)
  refine ⟨_,at_,⟨hn,?_,by omega,less⟩,rfl,?_,?_,?_,?_⟩
  · rcases Nat.lt_or_ge (max (lenO lo) (lenO hi) + 1) n with z | z
    · have:=room_last1 (b:=false) (n:=max (lenO lo) (lenO hi)) hL E M ok (by omega) (by omega)
      have:=less _ (by omega) z
      omega
    · rcases Nat.le_total (lenO lo) (lenO hi) with y | y
      · right; omega
      · left; omega
  · exact (ob_nth hL0 E _).2
  · have:=List.mem_of_getElem? at_
    exact (List.mem_range'_1.mp (List.mem_filter.mp this).1).1
  · have:=List.mem_of_getElem? at_
    have:=(List.mem_range'_1.mp (List.mem_filter.mp this).1)
    omega
  · rw [(ob_nth hL0 E _).1]
    show ((ob L (endsL L 1 0) (loN L lo n) + _:Nat):Int) = (ob L (endsL L 1 0) (loN L lo n):Int) + _
    omega
end
def spLStem:Sp:=fun vs H Q _=>∃ (L:Nat) (lo hi:Option (List Nat)),vs = [.int L,oV lo,oV hi]∧2 ≤ L∧L ≤ 26∧MarksOk L lo hi∧OkLH lo hi∧∀ H' n w m,Same H H'→Stem L lo hi n w m→Q (.str (txt m)) H'
def rdLStem (K:PySem.W.Frag):TS:=
    tSeq (tAsg (tLst tNil) (gName 3))
      (tSeq (tAsg (tC (.int 0)) (gName 4))
      (tSeq (tWhile (tTest (tOp rEq (tCB (rLenL K) (tCons (tVar 3) tNil)) (tC (.int 0)))) (tSeq (tAsg (tOp rAddI (tVar 4) (tC (.int 1))) (gName 4))
      (tFor (iList K (tCall spLSome [] E0 (tCons (tVar 0) (tCons (tC (.int 1)) (tCons (tC (.int 0)) (tCons (tVar 1) (tCons (tVar 2) (tCons (tVar 4) tNil)))))))) (gName 5) (tSeq (tAsg (tCall spText [] E0 (tCons (tVar 0) (tCons (tVar 5) (tCons (tVar 4) tNil)))) (gName 6))
      (tIfS (tOr (tB (tIsN (tVar 2))) (tTest (tOp rNe (tSl rSlS (tVar 2) tNoPart (tPart (tVar 4))) (tVar 6)))) (tDrop (tBM K "list" rAppend (tVar 3) (tCons (tVar 6) tNil))) (tNext))))))
      (tRet (tOp (rIxL K) (tVar 3) (tOp rDivI (tOp rSubI (tCB (rLenL K) (tCons (tVar 3) tNil)) (tC (.int 1))) (tC (.int 2)))))))
def LStInv (L:Nat) (lo hi:Option (List Nat)) (p:Addr) (H:Hp):Nat→St→Hp→Prop:=fun x σ H'=>∃ (n:Nat) (ns:List Nat) (v5 v6:Option V),Same H H'∧H' p = some (.lst (ns.map fun w=>strV (low L w n)))∧n ≤ 1001∧x = 1001 - n∧(n = 0→ns = [])∧(1 ≤ n→ns = numsS L lo hi n)∧(∀ m,1 ≤ m→m < n→roomB false L (endsL L 1 0) lo hi m < 1)∧
  σ = [some (.int L),some (oV lo),some (oV hi),some (.ref p),some (.int n),v5,v6]
def LSIn (L n:Nat) (lo hi:Option (List Nat)) (p:Addr) (H:Hp) (ws:List Nat):Nat→St→Hp→Prop:=fun i σ H'=>∃ (v5 v6:Option V),Keeps [p] H H'∧H' p = some (.lst (((ws.take i).filter (keepS L hi n)).map fun w=>strV (low L w n)))∧σ = [some (.int L),some (oV lo),some (oV hi),some (.ref p),some (.int n),v5,v6]
theorem read_lstem {K:PySem.W.Frag} {N:List Str} {vs:List V} {H:Hp} {Q:VK} {E:XK} (hN:N.length = 7) (h:spLStem vs H Q E):rdLStem K { nx:=fun _ H'=>Q .non H',rt:=Q } (L2.start N vs) H:=by
  obtain ⟨L,lo,hi,rfl,hL,hL26,M,ok,q⟩:=h
  have hlen:=M.lens
  have hL0:0 < L:=by omega
  have EN:=ends_ok (K:=L) (h:=1) (j:=0) (by decide) (by omega)
  unfold rdLStem L2.start
  rw [hN]
  refine seq_set fun c hc=>?_
  and_intros
  refine ⟨by decide,fun p hp=>hc _ _ ?_⟩
  clear hc c
  have s1:=Same.up H hp (o:=.lst [])
  have ep:(upd H p (.lst [])) p = some (.lst []):=upd_same
  generalize upd H p _ = H1 at s1 ep ⊢
  refine seq_set fun c hc=>?_
  and_intros
  refine hc _ _ ?_
  clear hc c
  simp only [List.set_cons_zero,List.set_cons_succ,List.replicate_succ,List.replicate_zero,List.map_cons,List.map_nil,List.cons_append,List.nil_append]
  refine seq_any fun c hc=>?_
  suffices main:∀ n v5 v6 H',Same H H'→H' p = some (.lst ((numsS L lo hi n).map fun w=>strV (low L w n)))→1 ≤ n→n ≤ 1001→numsS L lo hi n ≠ []→(∀ m,1 ≤ m→m < n→roomB false L (endsL L 1 0) lo hi m < 1)→c [some (.int L),some (oV lo),some (oV hi),some (.ref p),some (.int n),v5,v6] H' by
    refine while_of (LStInv L lo hi p H) 1001 ⟨0,[],_,_,s1,ep,by decide,rfl,fun _=>rfl,fun z=>by omega,fun m h1 h2=>by omega,rfl⟩ ?_
    rintro x σ H' ⟨n,ns,v5,v6,s,hp',hn,hx,hz,h1,less,rfl⟩ R hgo hstop
    and_intros
    refine lenL_go (SqL.of hp') ⟨rfl,?_⟩
    rw [List.length_map]
    by_cases e:ns = []
    · rw [decide_eq_true (show V.int ((ns.length:Nat):Int) = V.int 0 by rw [e]; rfl)]
      refine hgo _ ?_
      have rn:1 ≤ n→roomB false L (endsL L 1 0) lo hi n < 1:=fun z=>by
        have:=stems_len (n:=n) (lo:=lo) (hi:=hi) hL
        rw [← h1 z,e,List.length_nil] at this
        omega
      have hn1:n ≤ 1000:=by
        rcases Nat.lt_or_ge 1000 n with z | z
        · have e:n = 1000 + 1:=by omega
          subst e
          have:=room_last1 (b:=false) hL EN M ok hlen.1 hlen.2
          have:=rn (by omega)
          omega
        · exact z
      rw [e] at hp'
      simp only [List.map_nil] at hp'
      refine seq_set fun c1 hc1=>?_
      and_intros
      refine hc1 _ _ ?_
      clear hc1 c1
      simp only [List.set_cons_zero,List.set_cons_succ]
      refine for_pre ?_
      and_intros
      refine ⟨L,1,0,lo,hi,n + 1,rfl,hands1 hL hL26,M,by omega,?_,fun H2 p2 s2 f2 hp2=>?_⟩
      · rcases Nat.eq_zero_or_pos n with z | z
        · rw [z]; exact few_one hL26 hL0 M
        · exact few_nextS hL hL26 M (rn z)
      have npp:p2 ≠ p:=fun z=>by subst z; rw [hp'] at f2; cases f2
      have ep2:=s2 _ _ hp'
      refine for_l (a:=p2) (xs:=(numsH L 1 0 lo hi (n + 1)).map fun w=>.int (w:Nat)) (fun Q h=>h) (SqL.of hp2) (LSIn L (n + 1) lo hi p H2 (numsH L 1 0 lo hi (n + 1))) ⟨_,_,fun _ _ e _=>e,ep2,rfl⟩ (fun i σ H3 _ h=>?_) ?_ ?_
      · obtain ⟨_,_,k,_⟩:=h
        exact SqL.of (k _ _ hp2 (by simpa using npp))
      · rintro i x σ H3 hx ⟨v5',v6',k3,hp3,rfl⟩
        rw [List.getElem?_map] at hx
        obtain ⟨w,hw,rfl⟩:=Option.map_eq_some_iff.mp hx
        have etk:(numsH L 1 0 lo hi (n + 1)).take (i + 1) = (numsH L 1 0 lo hi (n + 1)).take i ++ [w]:=by rw [List.take_add_one,hw]; rfl
        have w0:w % L ≠ 0:=(own_all hL0).mp (List.mem_filter.mp (List.mem_of_getElem? hw)).2
        refine seq_set fun c1 hc1=>?_
        and_intros
        refine ⟨L,w,n + 1,rfl,hL0,hL26,by omega,hc1 _ _ ?_⟩
        clear hc1 c1
        rw [MM.mk_low hL0 w0]
        simp only [List.set_cons_zero,List.set_cons_succ]
        have few:(((numsH L 1 0 lo hi (n + 1)).take i).filter (keepS L hi (n + 1))).length ≤ 99999:=by
          have a1:=List.length_filter_le (keepS L hi (n + 1)) ((numsH L 1 0 lo hi (n + 1)).take i)
          have a2:((numsH L 1 0 lo hi (n + 1)).take i).length ≤ (numsH L 1 0 lo hi (n + 1)).length:=by rw [List.length_take]; omega
          have a3:(numsH L 1 0 lo hi (n + 1)).length ≤ hiN L hi (n + 1) - loN L lo (n + 1):=by
            unfold numsH
            refine Nat.le_trans (List.length_filter_le _ _) ?_
            rw [List.length_range']
            exact Nat.le_refl _
          have a4:hiN L hi (n + 1) ≤ loN L lo (n + 1) + 90000:=by
            rcases Nat.eq_zero_or_pos n with z | z
            · rw [z]; exact few_one hL26 hL0 M
            · exact few_nextS hL hL26 M (rn z)
          omega
        have add:keepS L hi (n + 1) w = true→tyV K "list" (.ref p) H3∧rAppend (.ref p) [.str (txt (low L w (n + 1)))] H3 fun _ H1=>LSIn L (n + 1) lo hi p H2 (numsH L 1 0 lo hi (n + 1)) (i + 1) [some (.int L),some (oV lo),some (oV hi),some (.ref p),some (.int ((n + 1:Nat):Int)),some (.int (w:Nat)),some (.str (txt (low L w (n + 1))))] H1:=fun hk=>by
          refine ⟨.inl ⟨rfl,_,SqL.of hp3⟩,append_go hp3 (by rw [List.length_map]; omega) ⟨_,_,k3.upd (.inl List.mem_cons_self),?_,rfl⟩⟩
          rw [upd_same,etk,List.filter_append,List.map_append]
          simp [hk,strV]
        cases hi with
        | none=>
          simp? [oVn]
          exact add rfl
        | some u=>
          simp? [oVs]
          refine slS_go (by have:=(M.mhi u rfl).2; omega) ⟨rfl,?_⟩
          rw [cutL_toN]
          by_cases z:V.str (txt (u.take (n + 1))) = V.str (txt (low L w (n + 1)))
          · rw [if_neg (fun y=>y z)]
            refine ⟨_,_,k3,?_,rfl⟩
            rw [hp3,etk,List.filter_append,List.map_append]
            have hk:keepS L (some u) (n + 1) w = false:=decide_eq_false fun y=>y (txt_inj.mp (by injection z))
            simp [hk]
          · rw [if_pos z]
            exact add (decide_eq_true fun y=>z (by rw [y]))
      · rintro σ H3 ⟨v5',v6',k3,hp3,rfl⟩
        rw [List.length_map,List.take_length,nums_stems hL M (by omega)] at hp3
        refine ⟨1001 - (n + 1),by omega,n + 1,_,v5',v6',?_,hp3,by omega,rfl,fun z=>by omega,fun _=>rfl,fun m m1 m2=>?_,rfl⟩
        · refine same_keep (s.trans s2) k3 fun b hb=>?_
          rw [List.mem_singleton.mp hb]
          exact hp
        · by_cases e:m = n
          · subst e; exact rn m1
          · exact less m m1 (by omega)
    · rw [decide_eq_false (fun z=>e (List.length_eq_zero_iff.mp (by have:=V.int.inj z; omega)))]
      have n1:1 ≤ n:=by
        rcases Nat.eq_zero_or_pos n with z | z
        · exact absurd (hz z) e
        · exact z
      rw [h1 n1] at hp' e
      exact hstop _ (main n v5 v6 H' s hp' n1 hn e less)
  intro n v5 v6 H' s hp' n1 n1001 ne less
  refine hc _ _ ?_
  clear hc c
  obtain ⟨w,hw,S⟩:=stem_mid hL M ok n1 ne less
  have npos:0 < (numsS L lo hi n).length:=List.length_pos_iff.mpr ne
  and_intros
  refine lenL_go (SqL.of hp') ?_
  rw [List.length_map]
  refine ⟨_,rfl,cdiv (by decide) (by decide),ixL_go (v:=strV (low L w n)) (SqL.of hp') (by omega) ?_ (q H' n w _ s S)⟩
  rw [List.getElem?_map,show ((((numsS L lo hi n).length:Nat):Int) - 1) / 2 = ((((numsS L lo hi n).length - 1) / 2:Nat):Int) by omega,Int.toNat_natCast,hw]
  rfl
theorem low_snocL {R:List RwN} {m:List Nat} {r:RwN}:lowN (R ++ [r]) m = if isBel m r = true∧r.2 ≠ none then r.2 else lowN R m:=by
  unfold lowN
  rw [List.reverse_append,List.reverse_singleton,List.singleton_append]
  cases hb:isBel m r with
  | true=>
    rw [List.filter_cons_of_pos hb,firstN_cons]
    cases hr:r.2 with
    | none=>simp
    | some x=>simp
  | false=>
    rw [List.filter_cons_of_neg (by rw [hb]; decide)]
    simp
def behL (R:List RwN) (m:List Nat):Option (List Nat):=firstN (R.filter fun r=>decide (m < r.1))
theorem beh_snocL {R:List RwN} {m:List Nat} {r:RwN}:behL (R ++ [r]) m = if behL R m = none∧m < r.1 then r.2 else behL R m:=by
  unfold behL firstN
  rw [List.filter_append,List.findSome?_append]
  cases hb:List.findSome? (·.2) (R.filter fun r=>decide (m < r.1)) with
  | some x=>simp
  | none=>
    by_cases z:m < r.1
    · rw [List.filter_cons_of_pos (p:=fun r:RwN=>decide (m < r.1)) (decide_eq_true z)]
      cases hr:r.2 <;> simp [z,hr]
    · rw [List.filter_cons_of_neg (p:=fun r:RwN=>decide (m < r.1)) (by rw [decide_eq_false z]; decide)]
      simp [z]
theorem beh_highL {R:List RwN} {m:List Nat} (h:∀ r ∈ R,r.1 ≠ m):behL R m = highN R m:=by
  refine firstN_filter fun r hr _=>?_
  unfold isBel
  by_cases z:r.1 < m
  · rw [decide_eq_true z,decide_eq_false fun y=>List.lt_irrefl _ (List.lt_trans z y)]; rfl
  · by_cases y:m < r.1
    · rw [decide_eq_false z,decide_eq_true y]; rfl
    · exact absurd (List.le_antisymm (List.not_lt.mp y) (List.not_lt.mp z)) (h r hr)
def spLCar (K:PySem.W.Frag):Sp:=fun vs H Q _=>∃ (L:Nat) (p:Addr) (R:List RwN) (m:List Nat),vs = [.int L,.ref p,.str (txt m)]∧2 ≤ L∧L ≤ 26∧AtRows K H p R∧RowsOk L R∧Mark L m∧m.length ≤ 90000∧∀ H' v,Same H H'→Car L R m v→Q (oV v) H'
def rdLCar (K:PySem.W.Frag):TS:=
    tSeq (tAsg (tC .non) (gName 3))
      (tSeq (tAsg (tC .non) (gName 4))
      (tSeq (tFor (iList K (tVar 1)) (gTup K 2 (gCons (gName 5) (gCons (gName 6) gNil))) (tSeq (tIfS (tTest (tOp rEq (tVar 5) (tVar 2))) (tRet (tVar 6)) (tNext))
      (tSeq (tIfS (tAnd (tB (tNotN (tVar 6))) (tTest (tOp rLtS (tVar 5) (tVar 2)))) (tAsg (tVar 6) (gName 3)) (tNext))
      (tIfS (tAnd (tB (tNotN (tVar 6))) (tAnd (tTest (tOp rGtS (tVar 5) (tVar 2))) (tB (tIsN (tVar 4))))) (tAsg (tVar 6) (gName 4)) (tNext)))))
      (tRet (tOp rAddS (tCall spLStem [] E0 (tCons (tVar 0) (tCons (tVar 3) (tCons (tVar 4) tNil)))) (tVar 2)))))
def LCInv (L:Nat) (p:Addr) (R:List RwN) (m:List Nat) (H:Hp):Nat→St→Hp→Prop:=fun i σ H'=>∃ (v5 v6:Option V),H' = H∧σ = [some (.int L),some (.ref p),some (.str (txt m)),some (oV (lowN (R.take i) m)),some (oV (behL (R.take i) m)),v5,v6]∧∀ r ∈ R.take i,r.1 ≠ m
theorem read_lcar {K:PySem.W.Frag} {N:List Str} {vs:List V} {H:Hp} {Q:VK} {E:XK} (hN:N.length = 7) (h:spLCar K vs H Q E):rdLCar K { nx:=fun _ H'=>Q .non H',rt:=Q } (L2.start N vs) H:=by
  obtain ⟨L,p,R,m,rfl,hL,hL26,hA,O,M,hm,q⟩:=h
  obtain ⟨xs,hq,hp⟩:=id hA
  have hxl:=hp.len
  rw [List.length_map] at hxl
  unfold rdLCar L2.start
  rw [hN]
  refine seq_set fun c hc=>?_
  and_intros
  refine hc _ _ ?_
  clear hc c
  refine seq_set fun c hc=>?_
  and_intros
  refine hc _ _ ?_
  clear hc c
  simp only [List.set_cons_zero,List.set_cons_succ,List.replicate_succ,List.replicate_zero,List.map_cons,List.map_nil,List.cons_append,List.nil_append]
  refine seq_any fun c hc=>?_
  refine for_l (a:=p) (xs:=xs) (fun Q h=>⟨_,rfl,h⟩) hq (LCInv L p R m H) ⟨none,none,rfl,by rw [List.take_zero]; rfl,fun r h=>by simp at h⟩ (fun i σ H' _ h=>by obtain ⟨_,_,e,_⟩:=h; rw [e]; exact hq) ?_ ?_
  · rintro i x σ H' hx ⟨v5,v6,rfl,rfl,hno⟩
    obtain ⟨k,t,ek,rfl,ht⟩:=hp.get hx
    rw [List.getElem?_map] at ek
    obtain ⟨⟨o,v⟩,ek2,rfl⟩:=Option.map_eq_some_iff.mp ek
    have etk:R.take (i + 1) = R.take i ++ [(o,v)]:=by rw [List.take_add_one,ek2]; rfl
    simp? [gTup,gCons,gNil,rowP]
    refine ⟨[strV o,oV v],SqT.of ht,rfl,strV o,[oV v],rfl,oV v,[],rfl,rfl,?_⟩
    simp? [strV]
    refine ⟨rfl,?_⟩
    by_cases e:o = m
    · rw [if_pos e]
      exact q H' v (Same.refl _) (.inl ⟨(o,v),List.mem_of_getElem? ek2,e,rfl⟩)
    · rw [if_neg e]
      have hno2:∀ r ∈ R.take (i + 1),r.1 ≠ m:=fun r hr=>by
        rw [etk] at hr
        rcases List.mem_append.mp hr with hr | hr
        · exact hno r hr
        · rw [List.mem_singleton.mp hr]; exact e
      have hl:=low_snocL (R:=R.take i) (m:=m) (r:=(o,v))
      have hb:=beh_snocL (R:=R.take i) (m:=m) (r:=(o,v))
      rw [← etk] at hl hb
      have fin:∀ a b,a = lowN (R.take (i + 1)) m→b = behL (R.take (i + 1)) m→LCInv L p R m H' (i + 1) [some (.int L),some (.ref p),some (.str (txt m)),some (oV a),some (oV b),some (.str (txt o)),some (oV v)] H':=fun a b ea eb=>by
        subst ea eb
        exact ⟨_,_,rfl,rfl,hno2⟩
      cases v with
      | none=>
        simp? [oVn,oVs]
        exact fin _ _ (by rw [hl,if_neg (by simp)]) (by rw [hb]; split <;> simp_all)
      | some y=>
        simp? [oVn,oVs]
        refine ⟨_,_,rfl,rfl,_,rfl,?_⟩
        by_cases z:o < m
        · rw [if_pos (decide_eq_true z)]
          refine ⟨_,_,rfl,rfl,_,rfl,?_⟩
          have nm:¬ m < o:=fun y=>List.lt_irrefl _ (List.lt_trans z y)
          rw [if_neg (by rw [decide_eq_false nm]; decide)]
          exact fin (some y) _ (by rw [hl,if_pos ⟨decide_eq_true z,by simp⟩]) (by rw [hb,if_neg (fun w=>nm w.2)])
        · rw [if_neg (by rw [decide_eq_false z]; decide)]
          have mo:m < o:=by
            rcases lt_three o m with x | x | x
            · exact absurd x z
            · exact absurd x e
            · exact x
          refine ⟨_,_,rfl,rfl,_,rfl,?_⟩
          rw [if_pos (decide_eq_true mo)]
          have el:lowN (R.take i) m = lowN (R.take (i + 1)) m:=by rw [hl,if_neg (by intro w; exact z (of_decide_eq_true w.1))]
          cases hb0:behL (R.take i) m with
          | none=>
            rw [if_pos (show oV none = V.non from rfl)]
            exact fin _ (some y) el (by rw [hb,if_pos ⟨hb0,mo⟩])
          | some x=>
            rw [if_neg (show ¬ oV (some x) = V.non from fun w=>(nomatch w))]
            exact fin _ (some x) el (by rw [hb,if_neg (fun w=>by rw [hb0] at w; cases w.1),hb0])
  · rintro σ H' ⟨v5,v6,rfl,rfl,hno⟩
    rw [hxl,List.take_length] at hno ⊢
    refine hc _ _ ?_
    clear hc c
    rw [beh_highL hno]
    and_intros
    refine ⟨L,lowN R m,highN R m,rfl,hL,hL26,O.marksOk m,O.okLH m,fun H2 n w s s2 S=>?_⟩
    obtain ⟨_,b2,_,b4,_⟩:=S.all hL (O.marksOk m) (O.okLH m)
    have:=O.lens m
    exact addS_go (by omega) (q H2 (some (s ++ m)) s2 (.inr ⟨hno,n,w,s,S,rfl⟩))
theorem comp_rows {K:PySem.W.Frag} {tl:TE} {a:Addr} {bs:List Addr} {R:List (List RwN)} {σ:St} {H:Hp} {Q:VK} (ha:∀ Q:VK,Q (.ref a) H→tl σ H Q) (hq:H a = some (.lst (bs.map V.ref))) (rc:RowsC H bs R) (few:R.length ≤ 100)
    (k:∀ H' o cs,Same H H'→H' o = some (.lst (cs.map V.ref))→RowsC H' cs R→Q (.ref o) H'):tComp (iList K tl) [] tYes (tCB (rListOf K) (tCons (tVar 0) tNil)) σ H Q:=by
  have bl:=rc.len
  refine comp_l (a:=a) (xs:=bs.map V.ref) ha (SqL.of hq) (fun i ys H'=>Same H H'∧∃ cs:List Addr,ys = cs.map V.ref∧RowsC H' cs (R.take i)) ⟨Same.refl _,[],rfl,trivial⟩ (fun i ys H' _ p=>⟨SqL.of (p.1 _ _ hq),by obtain ⟨_,cs,e,rc⟩:=p; rw [e,List.length_map,rc.len,List.length_take]; exact Nat.min_le_left _ _⟩) (by rw [List.length_map,sizeLine_eq]; omega) ?_ ?_
  · rintro i v ys H' hv ⟨s',cs,rfl,rc'⟩ W hW
    rw [List.getElem?_map] at hv
    obtain ⟨b,hb,rfl⟩:=Option.map_eq_some_iff.mp hv
    obtain ⟨r,xs,er,hx,px⟩:=rc.get hb
    have etk:R.take (i + 1) = R.take i ++ [r]:=by rw [List.take_add_one,er]; rfl
    and_intros
    refine ⟨b,xs,rfl,.inl (SqL.of (s' _ _ hx)),fun l hl=>hW _ _ ⟨s'.new hl,cs ++ [l],by rw [List.map_append]; rfl,?_⟩⟩
    rw [etk]
    have sU:=Same.up H' hl (o:=.lst xs)
    exact (rc'.same sU).app ⟨⟨xs,upd_same,(px.same s').same sU⟩,trivial⟩
  · rintro ys H1 ⟨s1,cs,rfl,rc1⟩ q1 hq1
    rw [List.length_map,bl,List.take_length] at rc1
    exact k _ q1 cs (s1.new hq1) upd_same (rc1.same (Same.up H1 hq1))
theorem catT_go {K:PySem.W.Frag} {H:Hp} {a b:Addr} {xs ys:List V} {Q:VK} (ha:H a = some (.tup xs)) (hb:H b = some (.tup ys)) (nx:xs ≠ []) (ny:ys ≠ []) (hz:xs.length + ys.length ≤ sizeLine) (q:∀ o,H o = none→Q (.ref o) (upd H o (.tup (xs ++ ys)))):rCatT K (.ref a) (.ref b) H Q:=by
  exact ⟨a,b,xs,ys,rfl,rfl,SqT.of ha,SqT.of hb,nx,hz,fun z=>absurd z ny,fun _=>q⟩
def spRCopy (K:PySem.W.Frag):Sp:=fun vs H Q _=>∃ (p p1 p2 p3:Addr) (bs:List Addr) (ts:List V) (L h:Nat) (R:List (List RwN)) (zs:List (List Nat × List Nat)) (ws:List (List Nat)),vs = [.ref p]∧StA H p p1 p2 p3 bs ts L h R zs ws∧R.length ≤ 100∧∀ H' o q1 q2 q3 cs,Same H H'→StA H' o q1 q2 q3 cs ts L h R zs ws→Q (.ref o) H'
def rdRCopy (K:PySem.W.Frag):TS:=
    tRet (tOp (rCatT K) (tSl (rSlT K) (tVar 0) tNoPart (tPart (tC (.int 2)))) (tTup (tCons (tComp (iList K (tOp (rIxT K) (tVar 0) (tC (.int 2)))) [] tYes (tCB (rListOf K) (tCons (tVar 0) tNil))) (tCons (tCB (rListOf K) (tCons (tOp (rIxT K) (tVar 0) (tC (.int 3))) tNil)) (tCons (tCB (rListOf K) (tCons (tOp (rIxT K) (tVar 0) (tC (.int 4))) tNil)) tNil)))))
theorem read_rcopy {K:PySem.W.Frag} {N:List Str} {vs:List V} {H:Hp} {Q:VK} {E:XK} (hN:N.length = 1) (h:spRCopy K vs H Q E):rdRCopy K { nx:=fun _ H'=>Q .non H',rt:=Q } (L2.start N vs) H:=by
  obtain ⟨p,p1,p2,p3,bs,ts,L,h,R,zs,ws,rfl,A,few,q⟩:=h
  unfold rdRCopy L2.start
  rw [hN]
  and_intros
  refine ⟨p,_,rfl,SqT.of A.top,fun z=>absurd z.2 (show ¬ HT.sIx 5 5 (some 2) = 5 by decide),fun a ha=>?_⟩
  have s1:=Same.up H ha (o:=.tup [.int L,.int h])
  have e1:(upd H a (.tup (cutV [V.int ↑L,V.int ↑h,V.ref p1,V.ref p2,V.ref p3] none (some 2)))) a = some (.tup [.int L,.int h]):=upd_same
  have s1:Same H (upd H a (.tup (cutV [V.int ↑L,V.int ↑h,V.ref p1,V.ref p2,V.ref p3] none (some 2)))):=Same.up H ha
  generalize upd H a _ = H1 at s1 e1 ⊢
  have A1:=A.same s1
  refine comp_rows (a:=p1) (fun Q h=>by and_intros; exact ixT_go (v:=.ref p1) (SqT.of A1.top) (by decide) rfl h) A1.ren A1.row few fun H2 q1 cs s12 eq1 rc2=>?_
  have s2:=s1.trans s12
  refine ixT_go (v:=.ref p2) (SqT.of (s2 _ _ A.top)) (by decide) rfl ⟨p2,ts,rfl,.inl (SqL.of (s2 _ _ A.thi)),fun q2 hq2=>?_⟩
  have sB:=Same.up H2 hq2 (o:=.lst ts)
  have eB:(upd H2 q2 (.lst ts)) q2 = some (.lst ts):=upd_same
  generalize upd H2 q2 _ = H3 at sB eB ⊢
  have s3:=s2.trans sB
  refine ixT_go (v:=.ref p3) (SqT.of (s3 _ _ A.top)) (by decide) rfl ⟨p3,_,rfl,.inl (SqL.of (s3 _ _ A.tak)),fun q3 hq3=>?_⟩
  have sC:=Same.up H3 hq3 (o:=.lst (ws.map strV))
  have eC:(upd H3 q3 (.lst (ws.map strV))) q3 = some (.lst (ws.map strV)):=upd_same
  generalize upd H3 q3 _ = H4 at sC eC ⊢
  have s4:=s3.trans sC
  refine ⟨by decide,fun t ht=>?_⟩
  have sD:=Same.up H4 ht (o:=.tup [.ref q1,.ref q2,.ref q3])
  have eD:(upd H4 t (.tup [.ref q1,.ref q2,.ref q3])) t = some (.tup [.ref q1,.ref q2,.ref q3]):=upd_same
  generalize upd H4 t _ = H5 at sD eD ⊢
  have s5:=s4.trans sD
  have s25:=(sB.trans sC).trans sD
  refine catT_go ((s12.trans s25) _ _ e1) eD (by simp) (by simp) (show 5 ≤ sizeLine by decide) fun o ho=>?_
  have sE:=Same.up H5 ho (o:=.tup ([.int L,.int h] ++ [.ref q1,.ref q2,.ref q3]))
  exact q _ o q1 q2 q3 cs (s5.trans sE) ⟨upd_same,sE _ _ (s25 _ _ eq1),(rc2.same s25).same sE,sE _ _ (sD _ _ (sC _ _ eB)),A.prs.same (s5.trans sE),sE _ _ (sD _ _ eC)⟩
def Step (L:Nat) (r:List RwN) (S:List (List Nat × List Nat)) (T:List (Option (List Nat) × List Nat)):Prop:=T.length = S.length∧∀ (j:Nat) z,S[j]? = some z→∃ v,T[j]? = some (v,z.2)∧Car L r z.1 v
def stepF (t:Option (List Nat) × List Nat):Option (List Nat × List Nat):=t.1.map fun m=>(m,t.2)
theorem Step.mem {L:Nat} {r:List RwN} {S:List (List Nat × List Nat)} {T:List (Option (List Nat) × List Nat)} (h:Step L r S T) (hL:2 ≤ L) (O:RowsOk L r) (q:List Nat × List Nat):q ∈ T.filterMap stepF ↔ ∃ z ∈ S,Car L r z.1 (some q.1)∧z.2 = q.2:=by
  constructor
  · intro hq
    obtain ⟨⟨v,t⟩,ht,e⟩:=List.mem_filterMap.mp hq
    obtain ⟨j,hj⟩:=List.getElem?_of_mem ht
    obtain ⟨z,hz⟩:∃ z,S[j]? = some z:=by
      have:j < S.length:=by rw [← h.1]; exact (List.getElem?_eq_some_iff.mp hj).1
      exact ⟨_,List.getElem?_eq_getElem this⟩
    obtain ⟨v',e',c⟩:=h.2 j z hz
    rw [hj] at e'
    injection e' with e'
    injection e' with e1 e2
    subst e1 e2
    obtain ⟨x,rfl,rfl⟩:=Option.map_eq_some_iff.mp e
    exact ⟨z,List.mem_of_getElem? hz,c,rfl⟩
  · rintro ⟨z,hz,c,e⟩
    obtain ⟨j,hj⟩:=List.getElem?_of_mem hz
    obtain ⟨v,e',c'⟩:=h.2 j z hj
    have:=Car.one O hL c' c
    subst this
    refine List.mem_filterMap.mpr ⟨_,List.mem_of_getElem? e',?_⟩
    show some (q.1,z.2) = some q
    rw [e]
theorem Step.len {L:Nat} {r:List RwN} {S:List (List Nat × List Nat)} {T:List (Option (List Nat) × List Nat)} (h:Step L r S T):(T.filterMap stepF).length ≤ S.length:=by
  rw [← h.1]
  exact List.length_filterMap_le _ _
theorem Carried.step {L:Nat} {D:List (List RwN)} {r:List RwN} {zs S S':List (List Nat × List Nat)} (C:Carried L D zs S) (h:∀ q,q ∈ S' ↔ ∃ z ∈ S,Car L r z.1 (some q.1)∧z.2 = q.2) (hl:S'.length ≤ S.length):Carried L (D ++ [r]) zs S':=by
  refine ⟨fun q=>?_,Nat.le_trans hl C.2⟩
  rw [h]
  constructor
  · rintro ⟨z,hz,c,e⟩
    obtain ⟨z0,h0,c0,e0⟩:=(C.1 z).mp hz
    exact ⟨z0,h0,c0.snoc c,e0.trans e⟩
  · rintro ⟨z0,h0,c0,e0⟩
    obtain ⟨x,c1,c2⟩:=c0.unsnoc
    exact ⟨(x,z0.2),(C.1 _).mpr ⟨z0,h0,c1,rfl⟩,c2,e0⟩
theorem CarriedK.step {L:Nat} {D:List (List RwN)} {r:List RwN} {zs S S':List (List Nat)} (C:CarriedK L D zs S) (h:∀ q,q ∈ S' ↔ ∃ z ∈ S,Car L r z (some q)) (hl:S'.length ≤ S.length):CarriedK L (D ++ [r]) zs S':=by
  refine ⟨fun q=>?_,Nat.le_trans hl C.2⟩
  rw [h]
  constructor
  · rintro ⟨z,hz,c⟩
    obtain ⟨z0,h0,c0⟩:=(C.1 z).mp hz
    exact ⟨z0,h0,c0.snoc c⟩
  · rintro ⟨z0,h0,c0⟩
    obtain ⟨x,c1,c2⟩:=c0.unsnoc
    exact ⟨x,(C.1 _).mpr ⟨z0,h0,c1⟩,c2⟩
def StepK (L:Nat) (r:List RwN) (S:List (List Nat)) (T:List (Option (List Nat))):Prop:=T.length = S.length∧∀ (j:Nat) z,S[j]? = some z→∃ v,T[j]? = some v∧Car L r z v
theorem StepK.mem {L:Nat} {r:List RwN} {S:List (List Nat)} {T:List (Option (List Nat))} (h:StepK L r S T) (hL:2 ≤ L) (O:RowsOk L r) (q:List Nat):q ∈ T.filterMap id ↔ ∃ z ∈ S,Car L r z (some q):=by
  constructor
  · intro hq
    obtain ⟨v,ht,e⟩:=List.mem_filterMap.mp hq
    obtain ⟨j,hj⟩:=List.getElem?_of_mem ht
    obtain ⟨z,hz⟩:∃ z,S[j]? = some z:=by
      have:j < S.length:=by rw [← h.1]; exact (List.getElem?_eq_some_iff.mp hj).1
      exact ⟨_,List.getElem?_eq_getElem this⟩
    obtain ⟨v',e',c⟩:=h.2 j z hz
    rw [hj] at e'
    injection e' with e'
    subst e'
    have e:v = some q:=e
    subst e
    exact ⟨z,List.mem_of_getElem? hz,c⟩
  · rintro ⟨z,hz,c⟩
    obtain ⟨j,hj⟩:=List.getElem?_of_mem hz
    obtain ⟨v,e',c'⟩:=h.2 j z hj
    have:=Car.one O hL c' c
    subst this
    exact List.mem_filterMap.mpr ⟨_,List.mem_of_getElem? e',rfl⟩
def spRCarry (K:PySem.W.Frag):Sp:=fun vs H Q _=>∃ (p p1 p2 p3 pr:Addr) (bs cs:List Addr) (ts:List V) (L h n:Nat) (R:List (List RwN)) (zs:List (List Nat × List Nat)) (ws:List (List Nat)),vs = [.ref p,.ref pr]∧StA H p p1 p2 p3 bs ts L h (R.take n) zs ws∧H pr = some (.lst (cs.map V.ref))∧RowsC H cs R∧(∀ r ∈ R,RowsOk L r)∧n ≤ R.length∧R.length ≤ 100∧2 ≤ L∧L ≤ 26∧(∀ m ∈ zs.map (·.1) ++ ws,Mark L m∧m.length ≤ 30000)∧zs.length < 64∧ws.length < 64∧
  ∀ H' o l1 l2 ys S ks,Same H H'→H' o = some (.tup [.ref l1,.ref l2])→H' l1 = some (.lst ys)→Prs H' ys (S.map stP)→H' l2 = some (.lst (ks.map strV))→Carried L (R.drop n) zs S→CarriedK L (R.drop n) ws ks→Q (.ref o) H'
def rdRCarry (K:PySem.W.Frag):TS:=
    tSeq (tAsg (tCB (rListOf K) (tCons (tOp (rIxT K) (tVar 0) (tC (.int 3))) tNil)) (gName 2))
      (tSeq (tAsg (tCB (rListOf K) (tCons (tOp (rIxT K) (tVar 0) (tC (.int 4))) tNil)) (gName 3))
      (tSeq (tFor (iList K (tSl (rSlL K) (tVar 1) (tPart (tCB (rLenL K) (tCons (tOp (rIxT K) (tVar 0) (tC (.int 2))) tNil))) tNoPart)) (gName 4) (tSeq (tCompSet2 K 2 (iList K (tVar 2)) [4,0] tYes (tTup (tCons (tCall (spLCar K) [] E0 (tCons (tOp (rIxT K) (tVar 3) (tC (.int 0))) (tCons (tVar 2) (tCons (tVar 0) tNil)))) (tCons (tVar 1) tNil))))
      (tSeq (tCompSet 2 (iList K (tVar 2)) [] (tB (tNotN (tOp (rIxT K) (tVar 0) (tC (.int 0))))) (tVar 0))
      (tSeq (tCompSet 3 (iList K (tVar 3)) [4,0] tYes (tCall (spLCar K) [] E0 (tCons (tOp (rIxT K) (tVar 2) (tC (.int 0))) (tCons (tVar 1) (tCons (tVar 0) tNil)))))
      (tCompSet 3 (iList K (tVar 3)) [] (tB (tNotN (tVar 0))) (tVar 0))))))
      (tRet (tTup (tCons (tVar 2) (tCons (tVar 3) tNil))))))
def RCInv (p pr:Addr) (H:Hp) (L:Nat) (D:List (List RwN)) (zs:List (List Nat × List Nat)) (ws:List (List Nat)):Nat→St→Hp→Prop:=fun i σ H'=>∃ (l1 l2:Addr) (ys:List V) (S:List (List Nat × List Nat)) (ks:List (List Nat)) (v4:Option V),Same H H'∧H' l1 = some (.lst ys)∧Prs H' ys (S.map stP)∧H' l2 = some (.lst (ks.map strV))∧Carried L (D.take i) zs S∧CarriedK L (D.take i) ws ks∧σ = [some (.ref p),some (.ref pr),some (.ref l1),some (.ref l2),v4]
def oP (t:Option (List Nat) × List Nat):V × V:=(oV t.1,strV t.2)
def T1Inv (H:Hp) (L:Nat) (r:List RwN) (S:List (List Nat × List Nat)):Nat→List V→Hp→Prop:=fun i ys H'=>∃ T,Same H H'∧Prs H' ys (T.map oP)∧Step L r (S.take i) T
def T2Inv (H:Hp) (T:List (Option (List Nat) × List Nat)):Nat→List V→Hp→Prop:=fun i ys H'=>H' = H∧Prs H ys (((T.take i).filterMap stepF).map stP)∧ys.length ≤ i
def T3Inv (H:Hp) (L:Nat) (r:List RwN) (S:List (List Nat)):Nat→List V→Hp→Prop:=fun i ys H'=>∃ T,Same H H'∧ys = T.map oV∧StepK L r (S.take i) T
def T4Inv (H:Hp) (T:List (Option (List Nat))):Nat→List V→Hp→Prop:=fun i ys H'=>H' = H∧ys = ((T.take i).filterMap id).map strV∧ys.length ≤ i
theorem Step.snoc {L:Nat} {r:List RwN} {S:List (List Nat × List Nat)} {T:List (Option (List Nat) × List Nat)} (h:Step L r S T) {z:List Nat × List Nat} {v:Option (List Nat)} (c:Car L r z.1 v):Step L r (S ++ [z]) (T ++ [(v,z.2)]):=by
  refine ⟨by rw [List.length_append,List.length_append,h.1]; rfl,fun j y hy=>?_⟩
  rcases Nat.lt_or_ge j S.length with z1 | z1
  · rw [List.getElem?_append_left z1] at hy
    obtain ⟨u,e,c'⟩:=h.2 j y hy
    exact ⟨u,by rw [List.getElem?_append_left (by rw [h.1]; exact z1)]; exact e,c'⟩
  · rw [List.getElem?_append_right z1] at hy
    have hj:j - S.length = 0:=by
      have:=(List.getElem?_eq_some_iff.mp hy).1
      simp at this
      omega
    rw [hj] at hy
    have e:z = y:=by simpa using hy
    subst e
    exact ⟨v,by rw [List.getElem?_append_right (by rw [h.1]; exact z1),h.1,hj]; rfl,c⟩
theorem StepK.snoc {L:Nat} {r:List RwN} {S:List (List Nat)} {T:List (Option (List Nat))} (h:StepK L r S T) {z:List Nat} {v:Option (List Nat)} (c:Car L r z v):StepK L r (S ++ [z]) (T ++ [v]):=by
  refine ⟨by rw [List.length_append,List.length_append,h.1]; rfl,fun j y hy=>?_⟩
  rcases Nat.lt_or_ge j S.length with z1 | z1
  · rw [List.getElem?_append_left z1] at hy
    obtain ⟨u,e,c'⟩:=h.2 j y hy
    exact ⟨u,by rw [List.getElem?_append_left (by rw [h.1]; exact z1)]; exact e,c'⟩
  · rw [List.getElem?_append_right z1] at hy
    have hj:j - S.length = 0:=by
      have:=(List.getElem?_eq_some_iff.mp hy).1
      simp at this
      omega
    rw [hj] at hy
    have e:z = y:=by simpa using hy
    subst e
    exact ⟨v,by rw [List.getElem?_append_right (by rw [h.1]; exact z1),h.1,hj]; rfl,c⟩
theorem read_rcarry {K:PySem.W.Frag} {N:List Str} {vs:List V} {H:Hp} {Q:VK} {E:XK} (hN:N.length = 5) (h:spRCarry K vs H Q E):rdRCarry K { nx:=fun _ H'=>Q .non H',rt:=Q } (L2.start N vs) H:=by
  obtain ⟨p,p1,p2,p3,pr,bs,cs,ts,L,h,n,R,zs,ws,rfl,A,hp,hR,O,hn,few,hL,hL26,hM,z64,w64,q⟩:=h
  have OD:∀ r ∈ R.drop n,RowsOk L r:=fun r hr=>O r (List.drop_subset _ _ hr)
  have bl:=A.row.len
  have cl:=hR.len
  rw [List.length_take,Nat.min_eq_left hn] at bl
  unfold rdRCarry L2.start
  rw [hN]
  refine seq_set fun c hc=>?_
  and_intros
  refine ixT_go (v:=.ref p2) (SqT.of A.top) (by decide) rfl ⟨p2,ts,rfl,.inl (SqL.of A.thi),fun l1 hl1=>hc _ _ ?_⟩
  clear hc c
  have s1:=Same.up H hl1 (o:=.lst ts)
  have e1:(upd H l1 (.lst ts)) l1 = some (.lst ts):=upd_same
  generalize upd H l1 _ = H1 at s1 e1 ⊢
  simp only [List.set_cons_zero,List.set_cons_succ,List.replicate_succ,List.replicate_zero,List.map_cons,List.map_nil,List.cons_append,List.nil_append]
  refine seq_set fun c hc=>?_
  and_intros
  refine ixT_go (v:=.ref p3) (SqT.of (s1 _ _ A.top)) (by decide) rfl ⟨p3,_,rfl,.inl (SqL.of (s1 _ _ A.tak)),fun l2 hl2=>hc _ _ ?_⟩
  clear hc c
  have s12:=Same.up H1 hl2 (o:=.lst (ws.map strV))
  have e2:(upd H1 l2 (.lst (ws.map strV))) l2 = some (.lst (ws.map strV)):=upd_same
  generalize upd H1 l2 _ = H2 at s12 e2 ⊢
  have s2:=s1.trans s12
  have A2:=A.same s2
  simp only [List.set_cons_zero,List.set_cons_succ]
  refine seq_any fun c hc=>?_
  refine for_pre ?_
  and_intros
  refine ixT_go (v:=.ref p1) (SqT.of A2.top) (by decide) rfl (lenL_go (SqL.of A2.ren) ?_)
  rw [List.length_map,bl]
  refine ⟨_,rfl,slL_go (SqL.of (s2 _ _ hp)) fun s hs=>?_⟩
  rw [cutV_from (by rw [List.length_map]; omega),← List.map_drop]
  have s23:=Same.up H2 hs (o:=.lst ((cs.drop n).map V.ref))
  have es:(upd H2 s (.lst ((cs.drop n).map V.ref))) s = some (.lst ((cs.drop n).map V.ref)):=upd_same
  generalize upd H2 s _ = H3 at s23 es ⊢
  have s3:=s2.trans s23
  have rc3:=(hR.drop n).same s3
  have A3:=A.same s3
  refine for_l (a:=s) (xs:=(cs.drop n).map V.ref) (fun Q h=>h) (SqL.of es) (RCInv p pr H3 L (R.drop n) zs ws) ⟨l1,l2,ts,zs,ws,none,Same.refl _,s23 _ _ (s12 _ _ e1),A3.prs,s23 _ _ e2,⟨fun q=>?_,Nat.le_refl _⟩,⟨fun q=>?_,Nat.le_refl _⟩,rfl⟩ (fun i σ H' _ h=>?_) ?_ ?_
  · constructor
    · intro z; exact ⟨q,z,rfl,rfl⟩
    · rintro ⟨z,hz,e,e2⟩
      have e:some q.1 = some z.1:=e
      injection e with e
      rw [show q = z from Prod.ext e e2.symm]
      exact hz
  · constructor
    · intro z; exact ⟨q,z,rfl⟩
    · rintro ⟨z,hz,e⟩
      have e:some q = some z:=e
      injection e with e
      rw [e]
      exact hz
  · obtain ⟨_,_,_,_,_,_,s',_⟩:=h
    exact SqL.of (s' _ _ es)
  · rintro i x σ H' hx ⟨l1,l2,ys,S,ks,v4,s',f1,pr1,f2,C,CK,rfl⟩
    rw [List.getElem?_map] at hx
    obtain ⟨b,hb,rfl⟩:=Option.map_eq_some_iff.mp hx
    obtain ⟨r,xs,er,hxr,px⟩:=(rc3.same s').get hb
    have etk:(R.drop n).take (i + 1) = (R.drop n).take i ++ [r]:=by rw [List.take_add_one,er]; rfl
    have Or:=OD r (List.mem_of_getElem? er)
    have hi:i < (R.drop n).length:=(List.getElem?_eq_some_iff.mp er).1
    rw [List.length_drop] at hi
    have Oi:∀ r ∈ (R.drop n).take i,RowsOk L r:=fun r h=>OD r (List.take_subset _ _ h)
    have cS:=C.2
    have cK:=CK.2
    have yl:=pr1.len
    rw [List.length_map] at yl
    have mS:∀ z ∈ S,Mark L z.1∧z.1.length ≤ 90000:=fun z hz=>by
      obtain ⟨z0,h0,c0,_⟩:=(C.1 z).mp hz
      obtain ⟨M0,b0⟩:=hM z0.1 (List.mem_append_left _ (List.mem_map_of_mem (f:=(·.1)) h0))
      obtain ⟨M1,b1⟩:=c0.len hL Oi M0
      rw [List.length_take,List.length_drop] at b1
      exact ⟨M1,by omega⟩
    have mK:∀ z ∈ ks,Mark L z∧z.length ≤ 90000:=fun z hz=>by
      obtain ⟨z0,h0,c0⟩:=(CK.1 z).mp hz
      obtain ⟨M0,b0⟩:=hM z0 (List.mem_append_right _ h0)
      obtain ⟨M1,b1⟩:=c0.len hL Oi M0
      rw [List.length_take,List.length_drop] at b1
      exact ⟨M1,by omega⟩
    refine seq_cset2 fun c1 hc1=>?_
    refine comp2_l (a:=l1) (xs:=ys) (fun Q h=>⟨_,rfl,h⟩) (SqL.of f1) (T1Inv H' L r S) ⟨[],Same.refl _,trivial,rfl,fun j z hz=>by simp at hz⟩ (fun i ys' H'' hi p=>?_) (by rw [sizeLine_eq]; omega) ?_ ?_
    · obtain ⟨T,s'',prT,st⟩:=p
      have a1:=prT.len
      rw [List.length_map,st.1,List.length_take] at a1
      exact ⟨SqL.of (s'' _ _ f1),by omega⟩
    · rintro j x ys' H'' hx ⟨T,s'',prT,st⟩
      obtain ⟨kv,t,ek,rfl,ht⟩:=pr1.get hx
      rw [List.getElem?_map] at ek
      obtain ⟨⟨m,th⟩,ek2,rfl⟩:=Option.map_eq_some_iff.mp ek
      have etS:S.take (j + 1) = S.take j ++ [(m,th)]:=by rw [List.take_add_one,ek2]; rfl
      have Mm:=mS _ (List.mem_of_getElem? ek2)
      refine ⟨t,strV m,strV th,rfl,SqT.of (s'' _ _ ht),fun W hW=>?_⟩
      have A'':=(A3.same s').same s''
      simp? [strV]
      refine ixT_go (v:=.int L) (SqT.of A''.top) (by decide) rfl ⟨L,b,r,m,rfl,hL,hL26,⟨xs,SqL.of (s'' _ _ hxr),px.same s''⟩,Or,Mm.1,Mm.2,fun H4 v s4 cv=>⟨by decide,fun o ho=>hW _ _ ⟨T ++ [(v,th)],(s''.trans s4).new ho,?_,by rw [etS]; exact st.snoc (z:=(m,th)) cv⟩⟩⟩
      rw [List.map_append]
      refine ((prT.same s4).same (Same.up H4 ho)).app ⟨⟨o,rfl,?_⟩,trivial⟩
      rw [upd_same]
      rfl
    rintro ys1 H4a ⟨T,s4a,prT,st⟩ l3 hl3
    refine hc1 _ _ ?_
    clear hc1 c1
    rw [yl,List.take_length] at st
    have s4:=s4a.new hl3 (o:=.lst ys1)
    have e3:(upd H4a l3 (.lst ys1)) l3 = some (.lst ys1):=upd_same
    have prT4:=prT.same (Same.up H4a hl3 (o:=.lst ys1))
    generalize upd H4a l3 _ = H4 at s4 e3 prT4 ⊢
    have tl:=prT4.len
    rw [List.length_map] at tl
    have tS:=st.1
    simp only [List.set_cons_zero,List.set_cons_succ]
    refine seq_cset fun c1 hc1=>?_
    refine comp_l (a:=l3) (xs:=ys1) (fun Q h=>⟨_,rfl,h⟩) (SqL.of e3) (T2Inv H4 T) ⟨rfl,trivial,Nat.le_refl _⟩ (fun i ys' H'' hi p=>⟨by rw [p.1]; exact SqL.of e3,p.2.2⟩) (by rw [sizeLine_eq]; omega) ?_ ?_
    · rintro j x ys' H'' hx ⟨rfl,prj,lj⟩ W hW
      obtain ⟨kv,t,ek,rfl,ht⟩:=prT4.get hx
      rw [List.getElem?_map] at ek
      obtain ⟨⟨v,th⟩,ek2,rfl⟩:=Option.map_eq_some_iff.mp ek
      have etT:T.take (j + 1) = T.take j ++ [(v,th)]:=by rw [List.take_add_one,ek2]; rfl
      and_intros
      refine ixT_go (v:=oV v) (SqT.of ht) (by decide) rfl ?_
      cases v with
      | none=>
        simp? [oVn]
        refine hW _ _ ⟨rfl,?_,by omega⟩
        rw [etT,List.filterMap_append]
        rw [show List.filterMap stepF [(none,th)] = [] from rfl,List.append_nil]
        exact prj
      | some y=>
        simp? [oVs]
        refine hW _ _ ⟨rfl,?_,by rw [List.length_append]; simp; omega⟩
        rw [etT,List.filterMap_append,List.map_append]
        exact prj.app ⟨⟨t,rfl,ht⟩,trivial⟩
    rintro ys2 H'' ⟨rfl,prS,ly2⟩ l5 hl5
    refine hc1 _ _ ?_
    clear hc1 c1
    rw [tl,List.take_length] at prS
    have s45:=Same.up H'' hl5 (o:=.lst ys2)
    have e5:(upd H'' l5 (.lst ys2)) l5 = some (.lst ys2):=upd_same
    generalize upd H'' l5 _ = H5 at s45 e5 ⊢
    have s5:=s4.trans s45
    simp only [List.set_cons_zero,List.set_cons_succ]
    refine seq_cset fun c1 hc1=>?_
    refine comp_l (a:=l2) (xs:=ks.map strV) (fun Q h=>⟨_,rfl,h⟩) (SqL.of (s5 _ _ f2)) (T3Inv H5 L r ks) ⟨[],Same.refl _,rfl,rfl,fun j z hz=>by simp at hz⟩ (fun i ys' H'' hi p=>?_) (by rw [List.length_map,sizeLine_eq]; omega) ?_ ?_
    · obtain ⟨T',s'',rfl,st'⟩:=p
      have a1:=st'.1
      rw [List.length_take] at a1
      exact ⟨SqL.of (s'' _ _ (s5 _ _ f2)),by rw [List.length_map]; omega⟩
    · rintro j x ys' H6 hx ⟨T',s'',rfl,st'⟩ W hW
      rw [List.getElem?_map] at hx
      obtain ⟨m,hm,rfl⟩:=Option.map_eq_some_iff.mp hx
      have etS:ks.take (j + 1) = ks.take j ++ [m]:=by rw [List.take_add_one,hm]; rfl
      have Mm:=mK _ (List.mem_of_getElem? hm)
      have s6:=s5.trans s''
      have A6:=(A3.same s').same s6
      simp? [strV]
      exact ixT_go (v:=.int L) (SqT.of A6.top) (by decide) rfl ⟨L,b,r,m,rfl,hL,hL26,⟨xs,SqL.of (s6 _ _ hxr),px.same s6⟩,Or,Mm.1,Mm.2,fun H7 v s7 cv=>hW _ _ ⟨T' ++ [v],s''.trans s7,by rw [List.map_append]; rfl,by rw [etS]; exact st'.snoc cv⟩⟩
    rintro ys3 H6a ⟨T',s6a,rfl,st'⟩ l6 hl6
    refine hc1 _ _ ?_
    clear hc1 c1
    rw [List.length_map,List.take_length] at st'
    have s56:=s6a.new hl6 (o:=.lst (T'.map oV))
    have e6:(upd H6a l6 (.lst (T'.map oV))) l6 = some (.lst (T'.map oV)):=upd_same
    generalize upd H6a l6 _ = H6 at s56 e6 ⊢
    have s6:=s5.trans s56
    have tK:=st'.1
    simp only [List.set_cons_zero,List.set_cons_succ]
    refine comp_l (a:=l6) (xs:=T'.map oV) (fun Q h=>⟨_,rfl,h⟩) (SqL.of e6) (T4Inv H6 T') ⟨rfl,rfl,Nat.le_refl _⟩ (fun i ys' H'' hi p=>⟨by rw [p.1]; exact SqL.of e6,p.2.2⟩) (by rw [List.length_map,sizeLine_eq]; omega) ?_ ?_
    · rintro j x ys' H'' hx ⟨rfl,rfl,lj⟩ W hW
      rw [List.getElem?_map] at hx
      obtain ⟨v,hv,rfl⟩:=Option.map_eq_some_iff.mp hx
      have etT:T'.take (j + 1) = T'.take j ++ [v]:=by rw [List.take_add_one,hv]; rfl
      cases v with
      | none=>
        simp? [oVn]
        refine hW _ _ ⟨rfl,?_,by omega⟩
        rw [etT,List.filterMap_append]
        simp
      | some y=>
        simp? [oVs]
        refine hW _ _ ⟨rfl,?_,by rw [List.length_append]; simp only [List.length_cons,List.length_nil]; omega⟩
        rw [etT,List.filterMap_append,List.map_append]
        rfl
    · rintro ys4 H'' ⟨rfl,rfl,lj⟩ l7 hl7
      rw [show List.take (List.map oV T').length T' = T' by rw [List.length_map,List.take_length]] at lj ⊢
      have s67:=Same.up H'' hl7 (o:=.lst ((T'.filterMap id).map strV))
      refine ⟨l5,l7,ys2,T.filterMap stepF,T'.filterMap id,_,s'.trans (s6.trans s67),s67 _ _ (s56 _ _ e5),((prS.same s45).same s56).same s67,upd_same,?_,?_,rfl⟩
      · rw [etk]; exact C.step (fun q=>st.mem hL Or q) st.len
      · rw [etk]; exact CK.step (fun q=>st'.mem hL Or q) (by rw [← tK]; exact List.length_filterMap_le _ _)
  · rintro σ H' ⟨l1,l2,ys,S,ks,v4,s',f1,pr1,f2,C,CK,rfl⟩
    refine hc _ _ ?_
    have dl:(cs.drop n).length = (R.drop n).length:=by rw [List.length_drop,List.length_drop,cl]
    rw [List.length_map,dl,List.take_length] at C CK
    and_intros
    refine ⟨by decide,fun o ho=>?_⟩
    have sU:=Same.up H' ho (o:=.tup [.ref l1,.ref l2])
    exact q _ o l1 l2 ys S ks ((s3.trans s').trans sU) upd_same (sU _ _ f1) (pr1.same sU) (sU _ _ f2) C CK
theorem StA.keepF {H H':Hp} {F:List Addr} {p p1 p2 p3:Addr} {bs:List Addr} {ts:List V} {L h:Nat} {R:List (List RwN)} {zs:List (List Nat × List Nat)} {ws:List (List Nat)} (A:StA H p p1 p2 p3 bs ts L h R zs ws) (k:Keeps F H H') (n:∀ f ∈ F,(∀ xs,H f ≠ some (.lst xs))∧∀ xs,H f ≠ some (.tup xs)):StA H' p p1 p2 p3 bs ts L h R zs ws:=
  ⟨k _ _ A.top fun z=>(n _ z).2 _ A.top,k _ _ A.ren fun z=>(n _ z).1 _ A.ren,A.row.keepF k n,k _ _ A.thi fun z=>(n _ z).1 _ A.thi,A.prs.keep fun t ys et=>k _ _ et fun z=>(n _ z).2 _ et,k _ _ A.tak fun z=>(n _ z).1 _ A.tak⟩
theorem comp_pre {K:PySem.W.Frag} {tl:TE} {fs:List Nat} {tt:TT} {te:TE} {σ:St} {H:Hp} {Q:VK} (h:tl σ H fun x H1=>tComp (iList K (tC x)) fs tt te σ H1 Q):tComp (iList K tl) fs tt te σ H Q:=h
structure Due (L:Nat) (R:List (List RwN)) (n1 n2:Nat) (zs zs':List (List Nat × List Nat)) (ws ws':List (List Nat)) (xs:List (List Nat × List Nat)) (ks:List (List Nat)):Prop where
  th:∃ S,MinOf S xs∧∀ q,q ∈ S ↔ (∃ z ∈ zs,CarA L (R.drop n1) z.1 (some q.1)∧z.2 = q.2) ∨ (∃ z ∈ zs',CarA L (R.drop n2) z.1 (some q.1)∧z.2 = q.2)
  kup:ks.Pairwise (· < ·)
  tk:∀ m,m ∈ ks ↔ (∃ w ∈ ws,CarA L (R.drop n1) w (some m)) ∨ (∃ w ∈ ws',CarA L (R.drop n2) w (some m))
def spRLaid (K:PySem.W.Frag):Sp:=fun vs H Q _=>∃ (p p1 p2 p3 q q1 q2 q3 pr:Addr) (bs cs ds:List Addr) (ts us:List V) (L h n1 n2:Nat) (R:List (List RwN)) (zs zs':List (List Nat × List Nat)) (ws ws':List (List Nat)),vs = [.ref p,.ref q,.ref pr]∧StA H p p1 p2 p3 bs ts L h (R.take n1) zs ws∧StA H q q1 q2 q3 cs us L h (R.take n2) zs' ws'∧H pr = some (.lst (ds.map V.ref))∧RowsC H ds R∧(∀ r ∈ R,RowsOk L r)∧n1 ≤ R.length∧n2 ≤ R.length∧R.length ≤ 100∧2 ≤ L∧L ≤ 26∧(∀ m ∈ zs.map (·.1) ++ ws,Mark L m∧m.length ≤ 30000)∧(∀ m ∈ zs'.map (·.1) ++ ws',Mark L m∧m.length ≤ 30000)∧zs.length + zs'.length < 64∧ws.length + ws'.length < 64∧
  ∀ H' o o1 o2 o3 es vs xs ks,Same H H'→StA H' o o1 o2 o3 es vs L h R xs ks→Due L R n1 n2 zs zs' ws ws' xs ks→Q (.ref o) H'
def tMeet (K:PySem.W.Frag):TS:=tFor (iList K (tVar 6)) (gTup K 2 (gCons (gName 8) (gCons (gName 9) gNil))) (sDPut (tVar 3) (tVar 8) (tCB rMin2S (tCons (tVar 9) (tCons (tDGet2 (tVar 3) (tVar 8) (tVar 9)) tNil))))
def tBody (K : PySem.W.Frag) : TS := tSeq (tAsg (tCall (spRCarry K) [] E0 (tCons (tVar 5) (tCons (tVar 2) tNil))) (gTup K 2 (gCons (gName 6) (gCons (gName 7) gNil))))
      (tSeq (tMeet K)
      (tAsg (tOp rCat (tVar 4) (tVar 7)) (gName 4)))
def rdRLaid (K:PySem.W.Frag):TS:=
    tSeq (tAsg tDNewK (gName 3))
      (tSeq (tAsg (tLst tNil) (gName 4))
      (tSeq (tFor (iList K (tLst (tCons (tVar 0) (tCons (tVar 1) tNil)))) (gName 5) (tBody K))
      (tSeq (tCompSet 10 (iList K (tCB rSortedD (tCons (tVar 3) tNil))) [3] tYes (tTup (tCons (tVar 0) (tCons (tDGet (tVar 1) (tVar 0)) tNil))))
      (tRet (tOp (rCatT K) (tSl (rSlT K) (tVar 0) tNoPart (tPart (tC (.int 2)))) (tTup (tCons (tComp (iList K (tVar 2)) [] tYes (tCB (rListOf K) (tCons (tVar 0) tNil))) (tCons (tVar 10) (tCons (tCB (rSortSet K) (tCons (tVar 4) tNil)) tNil)))))))))
def RLIn (p q pr d l4 x l1 l2:Addr) (H:Hp) (S S0:List (List Nat × List Nat)):Nat→St→Hp→Prop:=fun i σ H'=>∃ (kvs:List (List Nat × List Nat)) (v8 v9:Option V),Keeps [d] H H'∧H' d = some (.dK (thD kvs))∧MinAcc (S ++ S0.take i) kvs∧σ = [some (.ref p),some (.ref q),some (.ref pr),some (.ref d),some (.ref l4),some (.ref x),some (.ref l1),some (.ref l2),v8,v9,none]
theorem laid_body {K:PySem.W.Frag} {p q pr d l4 x x1 x2 x3:Addr} {bs ds:List Addr} {ts:List V} {L h n:Nat} {R:List (List RwN)} {zs S kvs:List (List Nat × List Nat)} {ws ks:List (List Nat)} {H:Hp} {v6 v7 v8 v9:Option V} {D:Ends} (A:StA H x x1 x2 x3 bs ts L h (R.take n) zs ws) (hp:H pr = some (.lst (ds.map V.ref))) (hR:RowsC H ds R) (O:∀ r ∈ R,RowsOk L r) (hn:n ≤ R.length) (few:R.length ≤ 100) (hL:2 ≤ L) (hL26:L ≤ 26) (hM:∀ m ∈ zs.map (·.1) ++ ws,Mark L m∧m.length ≤ 30000) (z64:zs.length < 64) (w64:ws.length < 64)
    (hd:H d = some (.dK (thD kvs))) (M:MinAcc S kvs) (Sl:S.length ≤ 100) (hl4:H l4 = some (.lst (ks.map strV))) (kl:ks.length ≤ 100)
    (k:∀ H' l4' v6 v7 v8 v9 kvs' S0 ks0,Keeps [d] H H'→H' d = some (.dK (thD kvs'))→MinAcc (S ++ S0) kvs'→H' l4' = some (.lst ((ks ++ ks0).map strV))→Carried L (R.drop n) zs S0→CarriedK L (R.drop n) ws ks0→D.nx [some (.ref p),some (.ref q),some (.ref pr),some (.ref d),some (.ref l4'),some (.ref x),v6,v7,v8,v9,none] H') :
    tBody K D [some (.ref p),some (.ref q),some (.ref pr),some (.ref d),some (.ref l4),some (.ref x),v6,v7,v8,v9,none] H:=by
  unfold tBody
  refine seq_any fun c hc=>?_
  simp? [gTup,gCons,gNil]
  refine ⟨x,x1,x2,x3,pr,bs,ds,ts,L,h,n,R,zs,ws,rfl,A,hp,hR,O,hn,few,hL,hL26,hM,z64,w64,fun H1 o l1 l2 ys S0 ks0 s1 eo e1 pr1 e2 C CK=>?_⟩
  refine ⟨o,rfl,[.ref l1,.ref l2],SqT.of eo,rfl,.ref l1,[.ref l2],rfl,.ref l2,[],rfl,rfl,hc _ _ ?_⟩
  clear hc c
  have cS:=C.2
  have cK:=CK.2
  have yl:=pr1.len
  rw [List.length_map] at yl
  have hd1:=s1 _ _ hd
  have nl:l1 ≠ d:=fun z=>by subst z; rw [hd1] at e1; cases e1
  refine seq_any fun c hc=>?_
  unfold tMeet
  refine for_l (a:=l1) (xs:=ys) (fun Q h=>⟨_,rfl,h⟩) (SqL.of e1) (RLIn p q pr d l4 x l1 l2 H1 S S0) ⟨kvs,_,_,fun _ _ e _=>e,hd1,by rw [List.take_zero,List.append_nil]; exact M,rfl⟩ (fun i σ H' _ h=>?_) ?_ ?_
  · obtain ⟨_,_,_,k',_⟩:=h
    exact SqL.of (k' _ _ e1 (by simpa using nl))
  · rintro i y σ H' hy ⟨kvs',v8,v9,k',hd',A',rfl⟩
    obtain ⟨kv,t,ek,rfl,ht⟩:=pr1.get hy
    rw [List.getElem?_map] at ek
    obtain ⟨⟨m,th⟩,ek2,rfl⟩:=Option.map_eq_some_iff.mp ek
    have etk:S0.take (i + 1) = S0.take i ++ [(m,th)]:=by rw [List.take_add_one,ek2]; rfl
    have ht':=k' _ _ ht (fun z=>by rw [List.mem_singleton.mp z,hd1] at ht; cases ht)
    obtain ⟨u,kvs2,f1,f2,A2⟩:=A'.put m th
    have kl':=A'.len
    rw [List.length_append,List.length_take] at kl'
    simp? [gTup,gCons,gNil,stP,sDPut,tDGet2]
    refine ⟨[strV m,strV th],SqT.of ht',rfl,strV m,[strV th],rfl,strV th,[],rfl,rfl,?_⟩
    refine ⟨.inl ⟨_,.inl hd'⟩,_,DGet.k (k:=.inr (txt m)) hd',?_⟩
    rw [f1]
    refine ⟨th,u,rfl,_,DPut.k (k:=.inr (txt m)) hd' (by unfold thD; rw [List.length_map,sizeLine_eq]; omega),kvs2,_,_,k'.upd (.inl List.mem_cons_self),?_,by rw [etk,← List.append_assoc]; exact A2,rfl⟩
    rw [upd_same,← f2]
    rfl
  · rintro σ H' ⟨kvs',v8,v9,k',hd',A',rfl⟩
    refine hc _ _ ?_
    clear hc c
    rw [yl,List.take_length] at A'
    have h4:=k' _ _ (s1 _ _ hl4) (fun z=>by rw [List.mem_singleton.mp z,hd] at hl4; cases hl4)
    have h2:=k' _ _ e2 (fun z=>by rw [List.mem_singleton.mp z,hd1] at e2; cases e2)
    and_intros
    refine ⟨l4,l2,_,_,rfl,rfl,h4,h2,by rw [List.length_map,List.length_map,sizeLine_eq]; omega,fun o ho=>?_⟩
    have ndo:d ≠ o:=fun z=>by subst z; rw [hd'] at ho; cases ho
    refine k _ o _ _ _ _ kvs' S0 ks0 ((Keeps.trans (Keeps.of_same s1) k').upd (.inr ho)) (by rw [upd_ne ndo]; exact hd') A' ?_ C CK
    rw [upd_same,List.map_append]
def Mems (L:Nat) (R:List (List RwN)) (n1 n2:Nat) (zs zs':List (List Nat × List Nat)) (ws ws':List (List Nat)) (i:Nat) (S:List (List Nat × List Nat)) (ks:List (List Nat)):Prop:=
  (∀ q,q ∈ S ↔ (1 ≤ i∧∃ z ∈ zs,CarA L (R.drop n1) z.1 (some q.1)∧z.2 = q.2) ∨ (2 ≤ i∧∃ z ∈ zs',CarA L (R.drop n2) z.1 (some q.1)∧z.2 = q.2))∧
  (∀ m,m ∈ ks ↔ (1 ≤ i∧∃ w ∈ ws,CarA L (R.drop n1) w (some m)) ∨ (2 ≤ i∧∃ w ∈ ws',CarA L (R.drop n2) w (some m)))∧
  S.length + (if i < 1 then zs.length else 0) + (if i < 2 then zs'.length else 0) ≤ zs.length + zs'.length∧ks.length + (if i < 1 then ws.length else 0) + (if i < 2 then ws'.length else 0) ≤ ws.length + ws'.length
def RLInv (p q pr d:Addr) (H:Hp) (L:Nat) (R:List (List RwN)) (n1 n2:Nat) (zs zs':List (List Nat × List Nat)) (ws ws':List (List Nat)):Nat→St→Hp→Prop:=fun i σ H'=>∃ (kvs S:List (List Nat × List Nat)) (ks:List (List Nat)) (l4:Addr) (v5 v6 v7 v8 v9:Option V),Keeps [d] H H'∧H' d = some (.dK (thD kvs))∧MinAcc S kvs∧H' l4 = some (.lst (ks.map strV))∧Mems L R n1 n2 zs zs' ws ws' i S ks∧σ = [some (.ref p),some (.ref q),some (.ref pr),some (.ref d),some (.ref l4),v5,v6,v7,v8,v9,none]
def RLSInv (H:Hp) (kvs:List (List Nat × List Nat)) (ms:List (List Nat)):Nat→List V→Hp→Prop:=fun i ys H'=>∃ xs:List (List Nat × List Nat),Same H H'∧Prs H' ys (xs.map stP)∧xs.map (·.1) = ms.take i∧∀ z ∈ xs,z ∈ kvs
theorem read_rlaid {K:PySem.W.Frag} {N:List Str} {vs:List V} {H:Hp} {Q:VK} {E:XK} (hN:N.length = 11) (h:spRLaid K vs H Q E):rdRLaid K { nx:=fun _ H'=>Q .non H',rt:=Q } (L2.start N vs) H:=by
  obtain ⟨p,p1,p2,p3,q,q1,q2,q3,pr,bs,cs,ds,ts,us,L,h,n1,n2,R,zs,zs',ws,ws',rfl,A,B,hp,hR,O,hn1,hn2,few,hL,hL26,hM,hM',z64,w64,k⟩:=h
  unfold rdRLaid L2.start
  rw [hN]
  refine seq_set fun c hc=>?_
  simp? [tDNewK]
  refine fun d hd=>hc _ _ ?_
  clear hc c
  have s1:=Same.up H hd (o:=.dK [])
  have ed:(upd H d (.dK [])) d = some (.dK (thD [])):=upd_same
  generalize upd H d _ = H1 at s1 ed ⊢
  simp only [List.set_cons_zero,List.set_cons_succ,List.replicate_succ,List.replicate_zero,List.map_cons,List.map_nil,List.cons_append,List.nil_append]
  refine seq_set fun c hc=>?_
  and_intros
  refine ⟨by decide,fun l4 hl4=>hc _ _ ?_⟩
  clear hc c
  have s12:=Same.up H1 hl4 (o:=.lst [])
  have e4:(upd H1 l4 (.lst [])) l4 = some (.lst (([]:List (List Nat)).map strV)):=upd_same
  generalize upd H1 l4 _ = H2 at s12 e4 ⊢
  have s2:=s1.trans s12
  simp only [List.set_cons_zero,List.set_cons_succ]
  refine seq_any fun c hc=>?_
  refine for_pre ?_
  and_intros
  refine ⟨by decide,fun l0 hl0=>?_⟩
  have s23:=Same.up H2 hl0 (o:=.lst [.ref p,.ref q])
  have e0:(upd H2 l0 (.lst [.ref p,.ref q])) l0 = some (.lst [.ref p,.ref q]):=upd_same
  generalize upd H2 l0 _ = H3 at s23 e0 ⊢
  have s3:=s2.trans s23
  have ed3:=s23 _ _ (s12 _ _ ed)
  have A3:=A.same s3
  have B3:=B.same s3
  have nf:∀ f ∈ [d],(∀ xs,H3 f ≠ some (.lst xs))∧∀ xs,H3 f ≠ some (.tup xs):=fun f hf=>by
    rw [List.mem_singleton.mp hf,ed3]
    exact ⟨fun _ z=>(nomatch z),fun _ z=>(nomatch z)⟩
  refine for_l (a:=l0) (xs:=[.ref p,.ref q]) (fun Q h=>h) (SqL.of e0) (RLInv p q pr d H3 L R n1 n2 zs zs' ws ws') ⟨[],[],[],l4,none,none,none,none,none,fun _ _ e _=>e,ed3,MinAcc.nil,s23 _ _ e4,⟨fun q=>⟨fun z=>(nomatch z),?_⟩,fun q=>⟨fun z=>(nomatch z),?_⟩,by simp,by simp⟩,rfl⟩ (fun i σ H' _ h=>?_) ?_ ?_
  · rintro (⟨z,_⟩ | ⟨z,_⟩) <;> omega
  · rintro (⟨z,_⟩ | ⟨z,_⟩) <;> omega
  · obtain ⟨_,_,_,_,_,_,_,_,_,k',_⟩:=h
    exact SqL.of (k' _ _ e0 fun z=>(nf _ z).1 _ e0)
  · rintro i y σ H' hy ⟨kvs,S,ks,l4',v5,v6,v7,v8,v9,k',hd',M,h4,⟨m1,m2,m3,m4⟩,rfl⟩
    have hp':=k' _ _ (s3 _ _ hp) fun z=>(nf _ z).1 _ (s3 _ _ hp)
    have hR':=(hR.same s3).keepF k' nf
    simp only [gName,List.set_cons_zero,List.set_cons_succ]
    match i,hy with
    | 0,hy=>
      obtain rfl:V.ref p = y:=by simpa using hy
      simp at m3 m4
      refine laid_body (A3.keepF k' nf) hp' hR' O hn1 few hL hL26 hM (by omega) (by omega) hd' M (by omega) h4 (by omega) fun H'' l4'' v6 v7 v8 v9 kvs' S0 ks0 k'' hd'' M'' h4'' C CK=>⟨kvs',S ++ S0,ks ++ ks0,l4'',_,_,_,_,_,Keeps.trans k' k'',hd'',M'',h4'',⟨fun x=>?_,fun x=>?_,?_,?_⟩,rfl⟩
      · rw [List.mem_append,m1,C.1]
        constructor
        · rintro ((⟨z,_⟩ | ⟨z,_⟩) | z)
          · omega
          · omega
          · exact .inl ⟨by omega,z⟩
        · rintro (⟨_,z⟩ | ⟨z,_⟩)
          · exact .inr z
          · omega
      · rw [List.mem_append,m2,CK.1]
        constructor
        · rintro ((⟨z,_⟩ | ⟨z,_⟩) | z)
          · omega
          · omega
          · exact .inl ⟨by omega,z⟩
        · rintro (⟨_,z⟩ | ⟨z,_⟩)
          · exact .inr z
          · omega
      · have:=C.2
        simp
        omega
      · have:=CK.2
        simp
        omega
    | 1,hy=>
      obtain rfl:V.ref q = y:=by simpa using hy
      simp at m3 m4
      refine laid_body (B3.keepF k' nf) hp' hR' O hn2 few hL hL26 hM' (by omega) (by omega) hd' M (by omega) h4 (by omega) fun H'' l4'' v6 v7 v8 v9 kvs' S0 ks0 k'' hd'' M'' h4'' C CK=>⟨kvs',S ++ S0,ks ++ ks0,l4'',_,_,_,_,_,Keeps.trans k' k'',hd'',M'',h4'',⟨fun x=>?_,fun x=>?_,?_,?_⟩,rfl⟩
      · rw [List.mem_append,m1,C.1]
        constructor
        · rintro ((⟨_,z⟩ | ⟨z,_⟩) | z)
          · exact .inl ⟨by omega,z⟩
          · omega
          · exact .inr ⟨by omega,z⟩
        · rintro (⟨_,z⟩ | ⟨_,z⟩)
          · exact .inl (.inl ⟨by omega,z⟩)
          · exact .inr z
      · rw [List.mem_append,m2,CK.1]
        constructor
        · rintro ((⟨_,z⟩ | ⟨z,_⟩) | z)
          · exact .inl ⟨by omega,z⟩
          · omega
          · exact .inr ⟨by omega,z⟩
        · rintro (⟨_,z⟩ | ⟨_,z⟩)
          · exact .inl (.inl ⟨by omega,z⟩)
          · exact .inr z
      · have:=C.2
        simp
        omega
      · have:=CK.2
        simp
        omega
    | i + 2,hy=>simp at hy
  · rintro σ H4 ⟨kvs,S,ks,l4',v5,v6,v7,v8,v9,k4,hd4,M,h4,⟨m1,m2,m3,m4⟩,rfl⟩
    refine hc _ _ ?_
    clear hc c
    simp at m3 m4
    have kl:=M.len
    have s4:=same_keep s3 k4 fun b hb=>by rw [List.mem_singleton.mp hb]; exact hd
    refine seq_cset fun c hc=>?_
    refine comp_pre ?_
    and_intros
    refine ⟨d,kvs.map fun kv=>(kv.1,strV kv.2),rfl,by rw [← thD_eq]; exact hd4,by rw [List.length_map]; omega,fun l5 ms hl5 hpm hle=>?_⟩
    have ek:(kvs.map fun kv=>(kv.1,strV kv.2)).map (·.1) = kvs.map (·.1):=by rw [List.map_map]; rfl
    rw [ek] at hpm
    have mlt:=lt_of_sorted hle (hpm.nodup_iff.mpr M.nd)
    have s45:=Same.up H4 hl5 (o:=.lst (ms.map strV))
    have e5:(upd H4 l5 (.lst (ms.map strV))) l5 = some (.lst (ms.map strV)):=upd_same
    generalize upd H4 l5 _ = H5 at s45 e5 ⊢
    have ml:ms.length ≤ 63:=by rw [hpm.length_eq,List.length_map]; omega
    refine comp_l (a:=l5) (xs:=ms.map strV) (fun Q h=>h) (SqL.of e5) (RLSInv H5 kvs ms) ⟨[],Same.refl _,trivial,rfl,fun z hz=>(nomatch hz)⟩ (fun i ys H' _ p=>?_) (by rw [List.length_map,sizeLine_eq]; omega) ?_ ?_
    · obtain ⟨xs,s',prx,ex,_⟩:=p
      have a1:=prx.len
      have a2:=congrArg List.length ex
      rw [List.length_map] at a1 a2
      rw [List.length_take] at a2
      exact ⟨SqL.of (s' _ _ e5),by omega⟩
    · rintro i y ys H' hy ⟨xs,s',prx,ex,sub⟩ W hW
      rw [List.getElem?_map] at hy
      obtain ⟨m,hm,rfl⟩:=Option.map_eq_some_iff.mp hy
      have etk:ms.take (i + 1) = ms.take i ++ [m]:=by rw [List.take_add_one,hm]; rfl
      obtain ⟨t,hin,ev⟩:=val_some (hpm.mem_iff.mp (List.mem_of_getElem? hm))
      simp? [tDGet]
      refine ⟨strV t,by rw [← ev]; exact DGet.k (k:=.inr (txt m)) (s' _ _ (s45 _ _ hd4)),by decide,fun o ho=>hW _ _ ⟨xs ++ [(m,t)],s'.new ho,?_,by rw [List.map_append,ex,etk]; rfl,fun z hz=>?_⟩⟩
      · rw [List.map_append]
        refine (prx.same (Same.up H' ho)).app ⟨⟨o,rfl,?_⟩,trivial⟩
        rw [upd_same]
        rfl
      · rcases List.mem_append.mp hz with hz | hz
        · exact sub z hz
        · rw [List.mem_singleton.mp hz]; exact hin
    rintro ys H6a ⟨xs,s56a,prx,ex,sub⟩ l10 hl10
    refine hc _ _ ?_
    clear hc c
    rw [List.length_map,List.take_length] at ex
    have s56:=s56a.new hl10 (o:=.lst ys)
    have e10:(upd H6a l10 (.lst ys)) l10 = some (.lst ys):=upd_same
    have prx6:=prx.same (Same.up H6a hl10 (o:=.lst ys))
    generalize upd H6a l10 _ = H6 at s56 e10 prx6 ⊢
    have s6:=s4.trans (s45.trans s56)
    have A6:=A.same s6
    have h46:=(s45.trans s56) _ _ h4
    have xM:MinOf S xs:=by
      refine ⟨by rw [ex]; exact mlt,fun z hz=>M.mem z (sub z hz),fun x hx=>?_⟩
      obtain ⟨z,hz,e,n⟩:=M.all x hx
      have:z.1 ∈ xs.map (·.1):=by rw [ex]; exact hpm.mem_iff.mpr (List.mem_map_of_mem (f:=(·.1)) hz)
      obtain ⟨z',hz',e'⟩:=List.mem_map.mp this
      have:z' = z:=nd_one M.nd (sub z' hz') hz e'
      subst this
      exact ⟨z',hz',e,n⟩
    simp? [List.set_cons_zero,List.set_cons_succ]
    refine ⟨p,_,rfl,SqT.of A6.top,fun z=>absurd z.2 (show ¬ HT.sIx 5 5 (some 2) = 5 by decide),fun a ha=>?_⟩
    have ea:(upd H6 a (.tup (cutV [V.int ↑L,V.int ↑h,V.ref p1,V.ref p2,V.ref p3] none (some 2)))) a = some (.tup [.int L,.int h]):=upd_same
    have s67:Same H6 (upd H6 a (.tup (cutV [V.int ↑L,V.int ↑h,V.ref p1,V.ref p2,V.ref p3] none (some 2)))):=Same.up H6 ha
    generalize upd H6 a _ = H7 at s67 ea ⊢
    have s7:=s6.trans s67
    refine comp_rows (a:=pr) (fun Q h=>⟨_,rfl,h⟩) (s7 _ _ hp) (hR.same s7) few fun H8 o1 es s78 eo1 rc8=>?_
    have s68:=s67.trans s78
    refine ⟨l4',ks,rfl,SqL.of (s68 _ _ h46),by omega,fun H9 l9 js s89 hl90 hl9 nd mem le=>?_⟩
    have s79:=s78.trans s89
    have s69:=s67.trans s79
    refine ⟨by decide,fun t ht=>?_⟩
    have sD:=Same.up H9 ht (o:=.tup [.ref o1,.ref l10,.ref l9])
    have eD:(upd H9 t (.tup [.ref o1,.ref l10,.ref l9])) t = some (.tup [.ref o1,.ref l10,.ref l9]):=upd_same
    generalize upd H9 t _ = HA at sD eD ⊢
    refine catT_go ((s79.trans sD) _ _ ea) eD (by simp) (by simp) (show 5 ≤ sizeLine by decide) fun o ho=>?_
    have sE:=sD.new ho (o:=.tup ([.int L,.int h] ++ [.ref o1,.ref l10,.ref l9]))
    refine k _ o o1 l10 l9 es ys xs js (s6.trans (s69.trans sE)) ⟨upd_same,sE _ _ (s89 _ _ eo1),(rc8.same s89).same sE,sE _ _ (s69 _ _ e10),(prx6.same s69).same sE,sE _ _ hl9⟩ ⟨⟨S,xM,fun x=>?_⟩,lt_of_sorted le nd,fun m=>?_⟩
    · rw [m1]
      exact ⟨fun z=>z.imp (·.2) (·.2),fun z=>z.imp (fun y=>⟨Nat.le_succ 1,y⟩) fun y=>⟨Nat.le_refl 2,y⟩⟩
    · rw [mem,m2]
      exact ⟨fun z=>z.imp (·.2) (·.2),fun z=>z.imp (fun y=>⟨Nat.le_succ 1,y⟩) fun y=>⟨Nat.le_refl 2,y⟩⟩
structure Made (L:Nat) (zs:List (List Nat × List Nat)) (ws:List (List Nat)):Prop where
  few:zs.length ≤ 10
  mar:∀ z ∈ zs,Mark L z.1∧z.1.length ≤ 500∧Thing z.2
  up:(zs.map (·.1)).Pairwise (· < ·)
  sub:ws.Sublist (zs.map (·.1))
def spRMade (K:PySem.W.Frag):Sp:=fun vs H Q _=>∃ (a ps pr pm:Addr) (ns:List Int) (b:Int) (cs:List Addr) (R:List (List RwN)) (mo:List (List Nat)) (L h:Nat),vs = [.ref a,.int b,.ref ps,.ref pr,.ref pm]∧SqL K H a (ns.map V.int)∧ns.length ≤ 63∧0 ≤ b∧b ≤ 2000∧H ps = some (.tup [.int L,.int h])∧H pr = some (.lst (cs.map V.ref))∧RowsC H cs R∧R.length ≤ 3∧(∀ r ∈ R,RowsT L r∧r.length ≤ 4)∧H pm = some (.lst (mo.map strV))∧mo.length ≤ 3∧(∀ m ∈ mo,Mark L m∧m.length ≤ 500)∧2 ≤ L∧L ≤ 26∧
  ∀ H' o p1 p2 p3 bs ts zs ws,Same H H'→StA H' o p1 p2 p3 bs ts L h R zs ws→Made L zs ws→Q (.ref o) H'
def rdRMade (K:PySem.W.Frag):TS:=
    tSeq (tAsg (tOp rCat (tCall (spTMarks K) [] E0 (tCons (tVar 0) (tCons (tVar 1) (tCons (tOp (rIxT K) (tVar 2) (tC (.int 0))) (tCons (tCall (spDraw K) [] E0 (tCons (tVar 0) (tCons (tOp rAddI (tVar 1) (tC (.int 60))) (tCons (tC (.int 7)) tNil)))) tNil))))) (tVar 4)) (gName 5))
      (tSeq (tFor (iList K (tVar 3)) (gName 6) (tFor (iList K (tVar 6)) (gTup K 2 (gCons (gName 7) (gCons (gName 8) gNil))) (tAsg (tOp rCat (tVar 5) (tIf (tB (tIsN (tVar 8))) (tLst (tCons (tVar 7) tNil)) (tLst (tCons (tVar 7) (tCons (tVar 8) tNil))))) (gName 5))))
      (tSeq (tAsg (tLst tNil) (gName 9))
      (tSeq (tFor (iList K (tCB (rSortSet K) (tCons (tVar 5) tNil))) (gName 10) (tIfS (tAnd (tTest (tOp rGtI (tCall (spDraw K) [] E0 (tCons (tVar 0) (tCons (tOp rAddI (tOp rAddI (tOp rAddI (tVar 1) (tC (.int 61))) (tCB rLenS (tCons (tVar 10) tNil))) (tCB (rLenL K) (tCons (tVar 9) tNil))) (tCons (tC (.int 3)) tNil)))) (tC (.int 0)))) (tTest (tOp rLtI (tCB (rLenL K) (tCons (tVar 9) tNil)) (tC (.int 10))))) (tDrop (tBM K "list" rAppend (tVar 9) (tCons (tVar 10) tNil))) (tNext)))
      (tSeq (tAsg (tLst tNil) (gName 11))
      (tSeq (tAsg (tLst tNil) (gName 12))
      (tSeq (tFor (iList K (tVar 9)) (gName 10) (tSeq (tDrop (tBM K "list" rAppend (tVar 11) (tCons (tTup (tCons (tVar 10) (tCons (tCall (spHThing K) [] E0 (tCons (tVar 0) (tCons (tOp rAddI (tOp rAddI (tVar 1) (tC (.int 200))) (tCB (rLenL K) (tCons (tVar 11) tNil))) tNil))) tNil))) tNil)))
      (tIfS (tTest (tOp rEq (tCall (spDraw K) [] E0 (tCons (tVar 0) (tCons (tOp rAddI (tOp rAddI (tVar 1) (tC (.int 300))) (tCB (rLenL K) (tCons (tVar 11) tNil))) (tCons (tC (.int 3)) tNil)))) (tC (.int 0)))) (tDrop (tBM K "list" rAppend (tVar 12) (tCons (tVar 10) tNil))) (tNext))))
      (tRet (tOp (rCatT K) (tVar 2) (tTup (tCons (tComp (iList K (tVar 3)) [] tYes (tCB (rListOf K) (tCons (tVar 0) tNil))) (tCons (tVar 11) (tCons (tVar 12) tNil))))))))))))
def mSt (sc:Addr) (b:Int) (ps pr pm l5:Addr) (v6 v7 v8 v9 v10 v11 v12:Option V):St:=[some (.ref sc),some (.int b),some (.ref ps),some (.ref pr),some (.ref pm),some (.ref l5),v6,v7,v8,v9,v10,v11,v12]
def M1Inv (sc:Addr) (b:Int) (ps pr pm:Addr) (H:Hp) (L k d:Nat):Nat→St→Hp→Prop:=fun i σ H'=>∃ (l5:Addr) (ms:List (List Nat)) (v6 v7 v8:Option V),Same H H'∧H' l5 = some (.lst (ms.map strV))∧(∀ m ∈ ms,Mark L m∧m.length ≤ 500)∧ms.length ≤ k + d * i∧σ = mSt sc b ps pr pm l5 v6 v7 v8 none none none none
def M3Inv (sc:Addr) (b:Int) (ps pr pm l5 l9:Addr) (v6 v7 v8:Option V) (H:Hp) (ms:List (List Nat)):Nat→St→Hp→Prop:=fun i σ H'=>∃ (so:List (List Nat)) (v10:Option V),Keeps [l9] H H'∧H' l9 = some (.lst (so.map strV))∧so.Sublist (ms.take i)∧so.length ≤ 10∧σ = mSt sc b ps pr pm l5 v6 v7 v8 (some (.ref l9)) v10 none none
def M4Inv (sc:Addr) (b:Int) (ps pr pm l5 l9 p3 p4:Addr) (v6 v7 v8:Option V) (H:Hp) (ms:List (List Nat)):Nat→St→Hp→Prop:=fun i σ H'=>∃ (ys:List V) (zs:List (List Nat × List Nat)) (ws:List (List Nat)) (v10:Option V),Keeps [p3,p4] H H'∧H' p3 = some (.lst ys)∧H' p4 = some (.lst (ws.map strV))∧ys.length = i∧Prs H' ys (zs.map stP)∧zs.map (·.1) = ms.take i∧(∀ z ∈ zs,Thing z.2)∧ws.Sublist (ms.take i)∧σ = mSt sc b ps pr pm l5 v6 v7 v8 (some (.ref l9)) v10 (some (.ref p3)) (some (.ref p4))
theorem read_rmade {K:PySem.W.Frag} {N:List Str} {vs:List V} {H:Hp} {Q:VK} {E:XK} (hN:N.length = 13) (h:spRMade K vs H Q E):rdRMade K { nx:=fun _ H'=>Q .non H',rt:=Q } (L2.start N vs) H:=by
  obtain ⟨sc,ps,pr,pm,ns,b,cs,R,mo,L,h,rfl,hS,hl,hb0,hb1,hps,hp,hR,few,hRT,hmo,mol,moM,hL,hL26,q⟩:=h
  have cl:=hR.len
  unfold rdRMade L2.start
  rw [hN]
  refine seq_set fun c hc=>?_
  and_intros
  refine ixT_go (v:=.int L) (SqT.of hps) (by decide) rfl ⟨sc,ns,_,_,rfl,hS,hl,by omega,by omega,by decide,fun n hn0 hn1=>?_⟩
  obtain ⟨n,rfl⟩:=Int.eq_ofNat_of_zero_le hn0
  refine ⟨sc,ns,b,L,n,rfl,hS,hl,hb0,by omega,hL,hL26,by omega,fun Ha l0 ms0 sa hl0 hm0 hml0 _=>?_⟩
  have s1:=sa.new hl0 (o:=.lst (ms0.map strV))
  have e0:(upd Ha l0 (.lst (ms0.map strV))) l0 = some (.lst (ms0.map strV)):=upd_same
  generalize upd Ha l0 _ = H1 at s1 e0 ⊢
  refine ⟨l0,pm,_,_,rfl,rfl,e0,s1 _ _ hmo,by rw [List.length_map,List.length_map,sizeLine_eq]; omega,fun l5 hl5=>hc _ _ ?_⟩
  clear hc c
  have s12:=Same.up H1 hl5 (o:=.lst (ms0.map strV ++ mo.map strV))
  have e5:(upd H1 l5 (.lst (ms0.map strV ++ mo.map strV))) l5 = some (.lst ((ms0 ++ mo).map strV)):=by rw [upd_same,List.map_append]
  generalize upd H1 l5 _ = H2 at s12 e5 ⊢
  have s2:=s1.trans s12
  have R2:=hR.same s2
  simp only [List.set_cons_zero,List.set_cons_succ,List.replicate_succ,List.replicate_zero,List.map_cons,List.map_nil,List.cons_append,List.nil_append]
  refine seq_any fun c hc=>?_
  refine for_l (a:=pr) (xs:=cs.map V.ref) (fun Q h=>⟨_,rfl,h⟩) (SqL.of (s2 _ _ hp)) (M1Inv sc b ps pr pm H2 L 9 8) ⟨l5,_,none,none,none,Same.refl _,e5,fun m hm=>?_,by rw [List.length_append]; omega,rfl⟩ (fun i σ H' _ h=>?_) ?_ ?_
  · rcases List.mem_append.mp hm with z | z
    · have:=hm0 m z; exact ⟨this.1,by omega⟩
    · exact moM m z
  · obtain ⟨_,_,_,_,_,s',_⟩:=h
    exact SqL.of (s' _ _ (s2 _ _ hp))
  · rintro i x σ H' hx ⟨l5,ms,v6,v7,v8,s',e5,hm,hml,rfl⟩
    rw [List.getElem?_map] at hx
    obtain ⟨rb,hrb,rfl⟩:=Option.map_eq_some_iff.mp hx
    obtain ⟨r,xs,er,hxr,px⟩:=(R2.same s').get hrb
    obtain ⟨T,r4⟩:=hRT r (List.mem_of_getElem? er)
    have xl:=px.len
    rw [List.length_map] at xl
    have hiR:i < R.length:=(List.getElem?_eq_some_iff.mp er).1
    simp only [mSt,gName,List.set_cons_zero,List.set_cons_succ]
    refine for_l (a:=rb) (xs:=xs) (fun Q h=>⟨_,rfl,h⟩) (SqL.of hxr) (M1Inv sc b ps pr pm H' L (9 + 8 * i) 2) ⟨l5,ms,_,_,_,Same.refl _,e5,hm,by omega,rfl⟩ (fun i σ H' _ h=>?_) ?_ ?_
    · obtain ⟨_,_,_,_,_,s',_⟩:=h
      exact SqL.of (s' _ _ hxr)
    · rintro j y σ H3 hy ⟨l5,ms,v6,v7,v8,s3,e5,hm,hml,rfl⟩
      have hj:j < xs.length:=(List.getElem?_eq_some_iff.mp hy).1
      obtain ⟨kv,t,ek,rfl,ht⟩:=(px.same s3).get hy
      rw [List.getElem?_map] at ek
      obtain ⟨⟨o,w⟩,ek2,rfl⟩:=Option.map_eq_some_iff.mp ek
      have om:=T.old _ (List.mem_of_getElem? ek2)
      have fin:∀ (ls:List (List Nat)) (l:Addr) (H4:Hp),Same H3 H4→H4 l = some (.lst (ls.map strV))→ls.length ≤ 2→(∀ m ∈ ls,Mark L m∧m.length ≤ 500)→rCat (.ref l5) (.ref l) H4 fun x H5=>M1Inv sc b ps pr pm H' L (9 + 8 * i) 2 (j + 1) [some (.ref sc),some (.int b),some (.ref ps),some (.ref pr),some (.ref pm),some x,v6,some (strV o),some (oV w),none,none,none,none] H5:=fun ls l H4 s4 el ll lm=>by
        refine ⟨l5,l,_,_,rfl,rfl,s4 _ _ e5,el,by rw [List.length_map,List.length_map,sizeLine_eq]; omega,fun o2 ho2=>⟨o2,ms ++ ls,_,_,_,(s3.trans s4).new ho2,by rw [upd_same,List.map_append],fun m hm'=>?_,by rw [List.length_append]; omega,rfl⟩⟩
        rcases List.mem_append.mp hm' with z | z
        · exact hm m z
        · exact lm m z
      simp? [gTup,gCons,gNil,rowP,mSt]
      refine ⟨[strV o,oV w],SqT.of ht,rfl,strV o,[oV w],rfl,oV w,[],rfl,rfl,?_⟩
      cases w with
      | none=>
        simp? [oVn]
        refine ⟨by decide,fun l hl=>fin [o] l _ (Same.up H3 hl) upd_same (Nat.le_succ 1) fun m hm'=>?_⟩
        rw [List.mem_singleton.mp hm']; exact om
      | some y=>
        have nm:=T.new _ (List.mem_of_getElem? ek2) y rfl
        simp? [oVs]
        refine ⟨by decide,fun l hl=>fin [o,y] l _ (Same.up H3 hl) upd_same (Nat.le_refl 2) fun m hm'=>?_⟩
        simp only [List.mem_cons,List.not_mem_nil,or_false] at hm'
        rcases hm' with rfl | rfl
        · exact om
        · exact nm
    · rintro σ H3 ⟨l5,ms,v6,v7,v8,s3,e5,hm,hml,rfl⟩
      exact ⟨l5,ms,v6,v7,v8,s'.trans s3,e5,hm,by omega,rfl⟩
  clear e5 hl5 l5
  rintro σ H3 ⟨l5,ms,v6,v7,v8,s23,e5,hm,hml,rfl⟩
  rw [List.length_map,cl] at hml
  refine hc _ _ ?_
  clear hc c
  have s3:=s2.trans s23
  refine seq_set fun c hc=>?_
  simp? [mSt]
  refine ⟨by decide,fun l9 hl9=>hc _ _ ?_⟩
  clear hc c
  have s34:=Same.up H3 hl9 (o:=.lst [])
  have e9:(upd H3 l9 (.lst [])) l9 = some (.lst (([]:List (List Nat)).map strV)):=upd_same
  generalize upd H3 l9 _ = H4 at s34 e9 ⊢
  simp only [mSt,List.set_cons_zero,List.set_cons_succ]
  refine seq_any fun c hc=>?_
  refine for_pre ?_
  and_intros
  refine ⟨l5,ms,rfl,SqL.of (s34 _ _ e5),by omega,fun H5 lx mx s45 hlx0 hlx ndx memx lex=>?_⟩
  have s35:=s34.trans s45
  have s5:=s3.trans s35
  have e95:=s45 _ _ e9
  have upx:=lt_of_sorted lex ndx
  have nlx:lx ≠ l9:=fun z=>by subst z; rw [e9] at hlx0; cases hlx0
  have mxM:∀ m ∈ mx,Mark L m∧m.length ≤ 500:=fun m hm'=>hm m ((memx m).mp hm')
  refine for_l (a:=lx) (xs:=mx.map strV) (fun Q h=>h) (SqL.of hlx) (M3Inv sc b ps pr pm l5 l9 v6 v7 v8 H5 mx) ⟨[],none,fun _ _ e _=>e,e95,List.Sublist.slnil,by decide,rfl⟩ (fun i σ H' _ h=>?_) ?_ ?_
  · obtain ⟨_,_,k',_⟩:=h
    exact SqL.of (k' _ _ hlx (by simpa using nlx))
  · rintro i x σ H' hx ⟨so,v10,k',e9',sub,sol,rfl⟩
    rw [List.getElem?_map] at hx
    obtain ⟨m,hm',rfl⟩:=Option.map_eq_some_iff.mp hx
    have etk:mx.take (i + 1) = mx.take i ++ [m]:=by rw [List.take_add_one,hm']; rfl
    have mM:=mxM m (List.mem_of_getElem? hm')
    have sH:=same_keep s5 k' fun b hb=>by rw [List.mem_singleton.mp hb]; exact s3.free1 hl9
    have stay:M3Inv sc b ps pr pm l5 l9 v6 v7 v8 H5 mx (i + 1) (mSt sc b ps pr pm l5 v6 v7 v8 (some (.ref l9)) (some (strV m)) none none) H':=⟨so,_,k',e9',by rw [etk]; exact sub.trans (List.sublist_append_left _ _),sol,rfl⟩
    simp? [mSt]
    refine lenS_go (by omega) ⟨_,rfl,lenL_go (SqL.of e9') ⟨_,rfl,?_⟩⟩
    rw [List.length_map]
    refine ⟨sc,ns,_,_,rfl,sH.seq hS,hl,by omega,by omega,by decide,fun d hd0 hd1=>⟨_,rfl,?_⟩⟩
    by_cases z:(0:Int) < d
    · rw [if_pos z]
      refine lenL_go (SqL.of e9') ⟨_,rfl,?_⟩
      rw [List.length_map]
      by_cases y:((so.length:Nat):Int) < 10
      · rw [if_pos y]
        refine ⟨.inl ⟨rfl,_,SqL.of e9'⟩,append_go e9' (by rw [List.length_map]; omega) ⟨so ++ [m],_,k'.upd (.inl List.mem_cons_self),by rw [upd_same,List.map_append]; rfl,by rw [etk]; exact sub.append (List.Sublist.refl _),by rw [List.length_append]; simp only [List.length_cons,List.length_nil]; omega,rfl⟩⟩
      · rw [if_neg y]
        exact stay
    · rw [if_neg z]
      exact stay
  rintro σ H6 ⟨so,v10,k56,e96,sub,sol,rfl⟩
  rw [List.length_map,List.take_length] at sub
  refine hc _ _ ?_
  clear hc c
  have s6:=same_keep s5 k56 fun b hb=>by rw [List.mem_singleton.mp hb]; exact s3.free1 hl9
  have soM:∀ m ∈ so,Mark L m∧m.length ≤ 500:=fun m hm'=>mxM m (sub.subset hm')
  have soU:=upx.sublist sub
  refine seq_set fun c hc=>?_
  simp? [mSt]
  refine ⟨by decide,fun p3 hp3=>hc _ _ ?_⟩
  clear hc c
  have s67:=Same.up H6 hp3 (o:=.lst [])
  have e3:(upd H6 p3 (.lst [])) p3 = some (.lst []):=upd_same
  generalize upd H6 p3 _ = H7 at s67 e3 ⊢
  simp only [mSt,List.set_cons_zero,List.set_cons_succ]
  refine seq_set fun c hc=>?_
  and_intros
  refine ⟨by decide,fun p4 hp4=>hc _ _ ?_⟩
  clear hc c
  have f4:=s67.free1 hp4
  have n34:p3 ≠ p4:=fun z=>by rw [← z,e3] at hp4; cases hp4
  have s78:=Same.up H7 hp4 (o:=.lst [])
  have e4:(upd H7 p4 (.lst [])) p4 = some (.lst []):=upd_same
  generalize upd H7 p4 _ = H8 at s78 e4 ⊢
  have s68:=s67.trans s78
  have s8:=s6.trans s68
  have e33:=s78 _ _ e3
  have e98:=s68 _ _ e96
  have nosub:∀ b ∈ [p3,p4],H6 b = none:=fun b hb=>by
    simp only [List.mem_cons,List.not_mem_nil,or_false] at hb
    rcases hb with rfl | rfl
    · exact hp3
    · exact f4
  have n9:l9 ∉ [p3,p4]:=fun z=>by
    simp only [List.mem_cons,List.not_mem_nil,or_false] at z
    rcases z with rfl | rfl
    · rw [e96] at hp3; cases hp3
    · rw [e96] at f4; cases f4
  simp only [List.set_cons_zero,List.set_cons_succ]
  refine seq_any fun c hc=>?_
  refine for_l (a:=l9) (xs:=so.map strV) (fun Q h=>⟨_,rfl,h⟩) (SqL.of e98) (M4Inv sc b ps pr pm l5 l9 p3 p4 v6 v7 v8 H8 so) ⟨[],[],[],_,fun _ _ e _=>e,e33,e4,rfl,trivial,rfl,fun z hz=>(nomatch hz),List.Sublist.slnil,rfl⟩ (fun i σ H' _ h=>?_) ?_ ?_
  · obtain ⟨_,_,_,_,k',_⟩:=h
    exact SqL.of (k' _ _ e98 n9)
  · rintro i y σ H' hy ⟨ys,zs,ws,v5,k',l3,l4,hl',pr',hz1,hz2,hsub,rfl⟩
    rw [List.getElem?_map] at hy
    obtain ⟨o,ho,rfl⟩:=Option.map_eq_some_iff.mp hy
    have hi:i < so.length:=(List.getElem?_eq_some_iff.mp ho).1
    have sH:=s6.trans (same_keep s68 k' nosub)
    have etk:so.take (i + 1) = so.take i ++ [o]:=by rw [List.take_add_one,ho]; rfl
    refine seq_any fun c1 hc1=>?_
    simp? [mSt]
    refine ⟨.inl ⟨rfl,_,SqL.of l3⟩,lenL_go (SqL.of l3) ⟨_,rfl,sc,ns,_,rfl,sH.seq hS,hl,by omega,by omega,fun H2' t s2 tht tl=>⟨by decide,fun u hu=>?_⟩⟩⟩
    have l32:=s2 _ _ l3
    have l42:=s2 _ _ l4
    have n6:p3 ≠ u:=fun z=>by subst z; rw [l32] at hu; cases hu
    have n7:p4 ≠ u:=fun z=>by subst z; rw [l42] at hu; cases hu
    refine append_go (by rw [upd_ne n6]; exact l32) (by omega) (hc1 _ _ ?_)
    clear hc1 c1
    have k2:Keeps [p3,p4] H8 (upd (upd H2' u (.tup [strV o,.str (txt t)])) p3 (.lst (ys ++ [.ref u]))):=((k'.trans (s2.keeps _)).upd (.inr hu)).upd (.inl List.mem_cons_self)
    have pr2:Prs (upd (upd H2' u (.tup [strV o,.str (txt t)])) p3 (.lst (ys ++ [.ref u]))) (ys ++ [.ref u]) ((zs ++ [(o,t)]).map stP):=by
      rw [List.map_append]
      refine ((pr'.same s2).keep (keep_list hu l32)).app ⟨⟨u,rfl,?_⟩,trivial⟩
      rw [upd_ne (Ne.symm n6),upd_same]
      rfl
    have l33:(upd (upd H2' u (.tup [strV o,.str (txt t)])) p3 (.lst (ys ++ [.ref u]))) p3 = some (.lst (ys ++ [.ref u])):=upd_same
    have l43:(upd (upd H2' u (.tup [strV o,.str (txt t)])) p3 (.lst (ys ++ [.ref u]))) p4 = some (.lst (ws.map strV)):=by rw [upd_ne (Ne.symm n34),upd_ne n7]; exact l42
    generalize upd (upd H2' u _) p3 _ = H9 at k2 pr2 l33 l43 ⊢
    have sH9:=s6.trans (same_keep s68 k2 nosub)
    have z1:(zs ++ [(o,t)]).map (·.1) = so.take (i + 1):=by rw [List.map_append,hz1,etk]; rfl
    have z2:∀ z ∈ zs ++ [(o,t)],Thing z.2:=fun z hz=>by
      rcases List.mem_append.mp hz with hz | hz
      · exact hz2 z hz
      · rw [List.mem_singleton.mp hz]; exact tht
    have yl:(ys ++ [V.ref u]).length = i + 1:=by rw [List.length_append,hl']; rfl
    have wl:ws.length ≤ 64:=by
      have:=hsub.length_le
      rw [List.length_take] at this
      omega
    and_intros
    refine lenL_go (SqL.of l33) ⟨_,rfl,sc,ns,_,_,rfl,sH9.seq hS,hl,by omega,by omega,by decide,fun d hd0 hd1=>⟨rfl,?_⟩⟩
    by_cases e:V.int d = V.int 0
    · rw [if_pos e]
      refine ⟨.inl ⟨rfl,_,SqL.of l43⟩,append_go l43 (by rw [List.length_map]; omega) ⟨_,zs ++ [(o,t)],ws ++ [o],_,k2.upd (.inl (by simp)),by rw [upd_ne n34]; exact l33,by rw [upd_same,List.map_append]; rfl,yl,pr2.keep fun t' ys' e'=>by rw [upd_ne (fun x=>by subst x; rw [l43] at e'; cases e')]; exact e',z1,z2,by rw [etk]; exact hsub.append (List.Sublist.refl _),rfl⟩⟩
    · rw [if_neg e]
      exact ⟨_,zs ++ [(o,t)],ws,_,k2,l33,l43,yl,pr2,z1,z2,by rw [etk]; exact hsub.trans (List.sublist_append_left _ _),rfl⟩
  rintro σ H9 ⟨ys,zs,ws,v5,k9,l3,l4,hl',pr',hz1,hz2,hsub,rfl⟩
  refine hc _ _ ?_
  clear hc c
  rw [List.length_map,List.take_length] at hz1 hsub
  have s69:=same_keep s68 k9 nosub
  have s9:=s6.trans s69
  have zl:zs.length = so.length:=by rw [← hz1,List.length_map]
  simp? [mSt]
  refine comp_rows (a:=pr) (fun Q h=>⟨_,rfl,h⟩) (s9 _ _ hp) (hR.same s9) (by omega) fun HA o1 es sA eo1 rcA=>⟨by decide,fun t ht=>?_⟩
  have sU:=Same.up HA ht (o:=.tup [.ref o1,.ref p3,.ref p4])
  have eU:(upd HA t (.tup [.ref o1,.ref p3,.ref p4])) t = some (.tup [.ref o1,.ref p3,.ref p4]):=upd_same
  generalize upd HA t _ = HB at sU eU ⊢
  have sB:=sA.trans sU
  refine catT_go ((s9.trans sB) _ _ hps) eU (by simp) (by simp) (show 5 ≤ sizeLine by decide) fun o ho=>?_
  have sE:=sU.new ho (o:=.tup ([.int L,.int h] ++ [.ref o1,.ref p3,.ref p4]))
  have sF:=sA.trans sE
  refine q _ o o1 p3 p4 es ys zs ws (s9.trans sF) ⟨upd_same,sE _ _ eo1,rcA.same sE,sF _ _ l3,pr'.same sF,sF _ _ l4⟩ ⟨by omega,fun z hz=>?_,by rw [hz1]; exact soU,by rw [hz1]; exact hsub⟩
  have:=soM z.1 (by rw [← hz1]; exact List.mem_map_of_mem hz)
  exact ⟨this.1,this.2,hz2 z hz⟩
end L2
namespace K65
open PySem PySem.Spec PyProof.Rows L2 MM
def top (i:Nat):Stmt:=PySem.Challenge.pw_shelfmark_k65_read_states_laid.main.body.getD i (.Pass ⟨0,0,0,0⟩)
abbrev s_p33:Stmt:=top 6
abbrev s_p22:Stmt:=top 7
abbrev s_p37:Stmt:=top 8
abbrev s_p28:Stmt:=top 9
abbrev s_p21:Stmt:=top 11
abbrev s_p16:Stmt:=top 12
abbrev s_p24:Stmt:=top 13
abbrev s_p31:Stmt:=top 14
abbrev s_p32:Stmt:=top 15
abbrev s_p30:Stmt:=top 16
abbrev s_p20:Stmt:=top 17
abbrev s_p29:Stmt:=top 18
abbrev s_p27:Stmt:=top 20
abbrev s_p36:Stmt:=top 22
abbrev s_p34:Stmt:=top 23
abbrev s_p23:Stmt:=top 24
abbrev s_p18:Stmt:=top 25
abbrev s_p35:Stmt:=top 32
abbrev s_p15:Stmt:=top 34
abbrev s_p17:Stmt:=top 35
abbrev s_p19:Stmt:=top 36
abbrev s_p14:Stmt:=top 37
abbrev s_p25:Stmt:=top 38
abbrev s_draw:Stmt:=top 40
abbrev s_size:Stmt:=top 41
abbrev s_whole:Stmt:=top 42
abbrev s_mark:Stmt:=top 43
abbrev s_some:Stmt:=top 44
abbrev s_stem:Stmt:=top 45
abbrev s_carried:Stmt:=top 46
abbrev s_marks:Stmt:=top 47
abbrev s_rows:Stmt:=top 48
abbrev s_thing:Stmt:=top 49
abbrev s_made:Stmt:=top 50
abbrev s_carry:Stmt:=top 51
abbrev s_l_laid:Stmt:=top 52
abbrev s_copy:Stmt:=top 53
abbrev s_law:Stmt:=top 54
structure Ad where
  (c_NoRoom f_p33 f_p22 f_p37 f_p28 f_p21 f_p16 f_p24 f_p31 f_p32 f_p30 f_p20 f_p29 f_p27 f_p36 f_p34 f_p23 f_p18 f_p35 f_p15 f_p17 f_p19 f_p14 f_p25 f_draw f_size f_whole f_mark f_some f_stem f_carried f_marks f_rows f_thing f_made f_carry f_l_laid f_copy f_law:Addr)
  (fd_p33 fd_p22 fd_p37 fd_p28 fd_p21 fd_p16 fd_p24 fd_p31 fd_p32 fd_p30 fd_p20 fd_p29 fd_p27 fd_p36 fd_p34 fd_p23 fd_p18 fd_p35 fd_p15 fd_p17 fd_p19 fd_p14 fd_p25 fd_draw fd_size fd_whole fd_mark fd_some fd_stem fd_carried fd_marks fd_rows fd_thing fd_made fd_carry fd_l_laid fd_copy fd_law:FuncData)
structure Tx (K:PySem.W.Frag) (mg:Str→Option Value) (a:Ad):Prop where
  n_int:mg "int" = none
  n_isinstance:mg "isinstance" = none
  n_len:mg "len" = none
  n_list:mg "list" = none
  n_min:mg "min" = none
  n_range:mg "range" = none
  n_reversed:mg "reversed" = none
  n_set:mg "set" = none
  n_sorted:mg "sorted" = none
  n_tuple:mg "tuple" = none
  c_SMALL:∃ t,mg "SMALL" = some (.str "abcdefghijklmnopqrstuvwxyz" t)
  c_LETTERS:∃ t,mg "LETTERS" = some (.int 0 t)
  c_HANDS:∃ t,mg "HANDS" = some (.int 1 t)
  c_RENEWALS:∃ t,mg "RENEWALS" = some (.int 2 t)
  c_THINGS:∃ t,mg "THINGS" = some (.int 3 t)
  c_TAKEN:∃ t,mg "TAKEN" = some (.int 4 t)
  m_NoRoom:mg "NoRoom" = some (.ref a.c_NoRoom)
  x_NoRoom : PySem.W.excIn K a.c_NoRoom [.type "ValueError", .type "Exception", .type "BaseException", .type "object"] "ValueError.__new__" = true
  g_p33:mg "power" = some (.ref a.f_p33)
  F_p33:Fun K "power" "power" s_p33 a.f_p33 a.fd_p33
  b_p33 : Binds K a.fd_p33 ["letters", "long"] []
  g_p22:mg "figure_at" = some (.ref a.f_p22)
  F_p22:Fun K "figure_at" "figure_at" s_p22 a.f_p22 a.fd_p22
  b_p22 : Binds K a.fd_p22 ["mark", "place"] []
  g_p37:mg "whole_of" = some (.ref a.f_p37)
  F_p37:Fun K "whole_of" "whole_of" s_p37 a.f_p37 a.fd_p37
  b_p37 : Binds K a.fd_p37 ["letters", "mark", "long"] []
  g_p28:mg "mark_of" = some (.ref a.f_p28)
  F_p28:Fun K "mark_of" "mark_of" s_p28 a.f_p28 a.fd_p28
  b_p28 : Binds K a.fd_p28 ["letters", "number", "long"] []
  g_p21:mg "ends_of" = some (.ref a.f_p21)
  F_p21:Fun K "ends_of" "ends_of" s_p21 a.f_p21 a.fd_p21
  b_p21 : Binds K a.fd_p21 ["letters", "hands", "hand"] []
  g_p16:mg "ask_room" = some (.ref a.f_p16)
  F_p16:Fun K "ask_room" "ask_room" s_p16 a.f_p16 a.fd_p16
  b_p16 : Binds K a.fd_p16 ["low", "high"] []
  g_p24:mg "high_whole_of" = some (.ref a.f_p24)
  F_p24:Fun K "high_whole_of" "high_whole_of" s_p24 a.f_p24 a.fd_p24
  b_p24 : Binds K a.fd_p24 ["letters", "high", "long"] []
  g_p31:mg "owned_below" = some (.ref a.f_p31)
  F_p31:Fun K "owned_below" "owned_below" s_p31 a.f_p31 a.fd_p31
  b_p31 : Binds K a.fd_p31 ["letters", "ends", "number"] []
  g_p32:mg "owned_up_to_low" = some (.ref a.f_p32)
  F_p32:Fun K "owned_up_to_low" "owned_up_to_low" s_p32 a.f_p32 a.fd_p32
  b_p32 : Binds K a.fd_p32 ["letters", "ends", "low_whole"] []
  g_p30:mg "owned_ahead_of_high" = some (.ref a.f_p30)
  F_p30:Fun K "owned_ahead_of_high" "owned_ahead_of_high" s_p30 a.f_p30 a.fd_p30
  b_p30 : Binds K a.fd_p30 ["letters", "ends", "high", "high_whole", "long", "beginnings"] []
  g_p20:mg "counted_at" = some (.ref a.f_p20)
  F_p20:Fun K "counted_at" "counted_at" s_p20 a.f_p20 a.fd_p20
  b_p20 : Binds K a.fd_p20 ["letters", "ends", "low", "high", "long", "beginnings"] []
  g_p29:mg "nth_mark" = some (.ref a.f_p29)
  F_p29:Fun K "nth_mark" "nth_mark" s_p29 a.f_p29 a.fd_p29
  b_p29 : Binds K a.fd_p29 ["letters", "hands", "hand", "low", "high", "long", "number"] []
  g_p27:mg "least_counted" = some (.ref a.f_p27)
  F_p27:Fun K "least_counted" "least_counted" s_p27 a.f_p27 a.fd_p27
  b_p27 : Binds K a.fd_p27 ["letters", "ends", "low", "high", "many", "beginnings"] []
  g_p36:mg "stem_between" = some (.ref a.f_p36)
  F_p36:Fun K "stem_between" "stem_between" s_p36 a.f_p36 a.fd_p36
  b_p36 : Binds K a.fd_p36 ["letters", "low", "high"] []
  g_p34:mg "rows_ahead" = some (.ref a.f_p34)
  F_p34:Fun K "rows_ahead" "rows_ahead" s_p34 a.f_p34 a.fd_p34
  b_p34 : Binds K a.fd_p34 ["rows", "mark"] []
  g_p23:mg "first_new" = some (.ref a.f_p23)
  F_p23:Fun K "first_new" "first_new" s_p23 a.f_p23 a.fd_p23
  b_p23:Binds K a.fd_p23 ["rows"] []
  g_p18:mg "carried_knowing" = some (.ref a.f_p18)
  F_p18:Fun K "carried_knowing" "carried_knowing" s_p18 a.f_p18 a.fd_p18
  b_p18 : Binds K a.fd_p18 ["letters", "rows", "mark", "stems"] []
  g_p35:mg "state_of" = some (.ref a.f_p35)
  F_p35:Fun K "state_of" "state_of" s_p35 a.f_p35 a.fd_p35
  b_p35 : Binds K a.fd_p35 ["letters", "hands", "renewals", "things", "taken"] []
  g_p15:mg "ask_meeting" = some (.ref a.f_p15)
  F_p15:Fun K "ask_meeting" "ask_meeting" s_p15 a.f_p15 a.fd_p15
  b_p15 : Binds K a.fd_p15 ["fewer", "more"] []
  g_p17:mg "carried_by_all" = some (.ref a.f_p17)
  F_p17:Fun K "carried_by_all" "carried_by_all" s_p17 a.f_p17 a.fd_p17
  b_p17 : Binds K a.fd_p17 ["letters", "renewals", "mark", "stems"] []
  g_p19:mg "carried_marks" = some (.ref a.f_p19)
  F_p19:Fun K "carried_marks" "carried_marks" s_p19 a.f_p19 a.fd_p19
  b_p19 : Binds K a.fd_p19 ["state", "renewals"] []
  g_p14:mg "all_things" = some (.ref a.f_p14)
  F_p14:Fun K "all_things" "all_things" s_p14 a.f_p14 a.fd_p14
  b_p14 : Binds K a.fd_p14 ["one", "other"] []
  g_p25:mg "laid" = some (.ref a.f_p25)
  F_p25:Fun K "laid" "laid" s_p25 a.f_p25 a.fd_p25
  b_p25 : Binds K a.fd_p25 ["one", "other"] []
  g_draw:mg "_law_draw" = some (.ref a.f_draw)
  F_draw:Fun K "_law_draw" "_law_draw" s_draw a.f_draw a.fd_draw
  b_draw : Binds K a.fd_draw ["_law_script", "_law_k", "_law_many"] []
  g_size:mg "_law_size" = some (.ref a.f_size)
  F_size:Fun K "_law_size" "_law_size" s_size a.f_size a.fd_size
  b_size:Binds K a.fd_size ["_law_script"] []
  g_whole:mg "_law_whole" = some (.ref a.f_whole)
  F_whole:Fun K "_law_whole" "_law_whole" s_whole a.f_whole a.fd_whole
  b_whole : Binds K a.fd_whole ["_law_letters", "_law_mark_here", "_law_long"] []
  g_mark:mg "_law_mark" = some (.ref a.f_mark)
  F_mark:Fun K "_law_mark" "_law_mark" s_mark a.f_mark a.fd_mark
  b_mark : Binds K a.fd_mark ["_law_letters", "_law_number", "_law_long"] []
  g_some:mg "_law_some" = some (.ref a.f_some)
  F_some:Fun K "_law_some" "_law_some" s_some a.f_some a.fd_some
  b_some : Binds K a.fd_some ["_law_letters", "_law_hands", "_law_hand", "_law_low", "_law_high", "_law_long"] []
  g_stem:mg "_law_stem" = some (.ref a.f_stem)
  F_stem:Fun K "_law_stem" "_law_stem" s_stem a.f_stem a.fd_stem
  b_stem : Binds K a.fd_stem ["_law_letters", "_law_low", "_law_high"] []
  g_carried:mg "_law_carried" = some (.ref a.f_carried)
  F_carried:Fun K "_law_carried" "_law_carried" s_carried a.f_carried a.fd_carried
  b_carried : Binds K a.fd_carried ["_law_letters", "_law_rows_here", "_law_mark_here"] []
  g_marks:mg "_law_marks" = some (.ref a.f_marks)
  F_marks:Fun K "_law_marks" "_law_marks" s_marks a.f_marks a.fd_marks
  b_marks : Binds K a.fd_marks ["_law_script", "_law_k", "_law_letters", "_law_many"] []
  g_rows:mg "_law_rows" = some (.ref a.f_rows)
  F_rows:Fun K "_law_rows" "_law_rows" s_rows a.f_rows a.fd_rows
  b_rows : Binds K a.fd_rows ["_law_script", "_law_k", "_law_letters"] []
  g_thing:mg "_law_thing" = some (.ref a.f_thing)
  F_thing:Fun K "_law_thing" "_law_thing" s_thing a.f_thing a.fd_thing
  b_thing : Binds K a.fd_thing ["_law_script", "_law_k"] []
  g_made:mg "_law_made" = some (.ref a.f_made)
  F_made:Fun K "_law_made" "_law_made" s_made a.f_made a.fd_made
  b_made : Binds K a.fd_made ["_law_script", "_law_k", "_law_size_here", "_law_renewals", "_law_more"] []
  g_carry:mg "_law_carry" = some (.ref a.f_carry)
  F_carry:Fun K "_law_carry" "_law_carry" s_carry a.f_carry a.fd_carry
  b_carry : Binds K a.fd_carry ["_law_state", "_law_renewals"] []
  g_l_laid:mg "_law_laid" = some (.ref a.f_l_laid)
  F_l_laid:Fun K "_law_laid" "_law_laid" s_l_laid a.f_l_laid a.fd_l_laid
  b_l_laid : Binds K a.fd_l_laid ["_law_one", "_law_other", "_law_renewals"] []
  g_copy:mg "_law_copy" = some (.ref a.f_copy)
  F_copy:Fun K "_law_copy" "_law_copy" s_copy a.f_copy a.fd_copy
  b_copy:Binds K a.fd_copy ["_law_state"] []
  g_law:mg "law" = some (.ref a.f_law)
  F_law:Fun K "law" "law" s_law a.f_law a.fd_law
  b_law:Binds K a.fd_law ["_law_script"] []
end K65
namespace K65
open PySem PySem.Spec PyProof.Rows L2 MM
def spLaw (K:PySem.W.Frag):Sp:=fun vs H Q _=>∃ (a:Addr) (ns:List Int),vs = [.ref a]∧SqL K H a (ns.map V.int)∧ns.length ≤ 63∧∀ H',Q (.bl true) H'
def spSize (K:PySem.W.Frag):Sp:=fun vs H Q _=>∃ (a:Addr) (ns:List Int),vs = [.ref a]∧SqL K H a (ns.map V.int)∧ns.length ≤ 63∧∀ H' p (L h:Nat),Same H H'→H' p = some (.tup [.int L,.int h])→2 ≤ L→L ≤ 26→1 ≤ h→h + 1 ≤ L→Q (.ref p) H'
section
variable {P:Program} {w:World} {K:PySem.W.Frag} {mg:Str→Option Value} {base:Heap} {a:Ad} {f:Addr} {cdv:Value} {A:Around} {outer:List Env} {s:Shared} {H:Hp} {E:XK}
theorem sc_p33 : FnScope ["letters", "long", "product", "step"] ["letters", "long"] (defScope s_p33) := ⟨rfl, rfl, rfl, by decide +kernel, rfl, by decide +kernel, by decide +kernel⟩
def rd_p33 (K:PySem.W.Frag) (a:Ad):TS:=
    rdPower
theorem pr_p33 (T:Tx K mg a) (hr:Room 0 (A.deeper (envOfC "power" (defScope s_p33) s.heap.objs.size f cdv))) :
    QSs (cxOf CX0 P w K mg base ["letters", "long", "product", "step"] "power" (defScope s_p33) f cdv A outer s H E).nox (defBody s_p33) (rd_p33 K a) := by
  delta rd_p33 rdPower
  exact kss_cons (ks_set (i:=2) sc_p33.nd ke_int)
      (kss_cons (ks_for (ki_range1 T.n_range (ka_cons (kv 1) ka_nil)) (kg_name (i:=3) sc_p33.nd) (kss_one (ks_set (i:=2) sc_p33.nd (ke_op op_mulB (kv 2) (kv 0)))))
      (kss_one (ks_ret (kv 2))))
theorem sc_p22 : FnScope ["mark", "place"] ["mark", "place"] (defScope s_p22) := ⟨rfl, rfl, rfl, by decide +kernel, rfl, by decide +kernel, by decide +kernel⟩
def rd_p22 (K:PySem.W.Frag) (a:Ad):TS:=
    rdFig K
theorem pr_p22 (T:Tx K mg a) (hr:Room 0 (A.deeper (envOfC "figure_at" (defScope s_p22) s.heap.objs.size f cdv))) :
    QSs (cxOf CX0 P w K mg base ["mark", "place"] "figure_at" (defScope s_p22) f cdv A outer s H E).nox (defBody s_p22) (rd_p22 K a) := by
  delta rd_p22 rdFig
  exact kss_cons (ks_if (kt_w (kw_or (kt_isN (kv 0)) (kw_or1 (kt_cmp op_ge (kv 1) (ke_callB call_lenS T.n_len PyProof.Rows.Boot.«len» (ka_cons (kv 0) ka_nil)))))) (kss_one (ks_ret ke_int)) (kss_nil))
      (kss_one (ks_ret (ke_bm PySem.F.plainAttrs_str PySem.F.slot_str_index PySem.F.type_str_index mt_index (ke_gstr T.c_SMALL small_eq) (ka_cons (ke_ix ix_strL (kv 0) (kv 1)) ka_nil))))
theorem sc_p37 : FnScope ["letters", "mark", "long", "whole", "place"] ["letters", "mark", "long"] (defScope s_p37) := ⟨rfl, rfl, rfl, by decide +kernel, rfl, by decide +kernel, by decide +kernel⟩
def rd_p37 (K:PySem.W.Frag) (a:Ad):TS:=
    rdWhole
theorem pr_p37 (T : Tx K mg a) (G_p22 : FnOk P w K mg base CX0 1 a.f_p22 a.fd_p22 ["mark", "place"] spFig) (hr : Room 1 (A.deeper (envOfC "whole_of" (defScope s_p37) s.heap.objs.size f cdv))) :
    QSs (cxOf CX0 P w K mg base ["letters", "mark", "long", "whole", "place"] "whole_of" (defScope s_p37) f cdv A outer s H E).nox (defBody s_p37) (rd_p37 K a) := by
  delta rd_p37 rdWhole
  exact kss_cons (ks_set (i:=3) sc_p37.nd ke_int)
      (kss_cons (ks_for (ki_range1 T.n_range (ka_cons (kv 2) ka_nil)) (kg_name (i:=4) sc_p37.nd) (kss_one (ks_set (i:=3) sc_p37.nd (ke_op op_add (ke_op op_mulB (kv 3) (kv 0)) (ke_call G_p22 (by exact hr.mono (by decide)) T.g_p22 T.F_p22.kp T.b_p22 pass0 (ka_cons (kv 1) (ka_cons (kv 4) ka_nil)))))))
      (kss_one (ks_ret (kv 3))))
theorem sc_p28 : FnScope ["letters", "number", "long", "text", "rest", "step"] ["letters", "number", "long"] (defScope s_p28) := ⟨rfl, rfl, rfl, by decide +kernel, rfl, by decide +kernel, by decide +kernel⟩
def rd_p28 (K:PySem.W.Frag) (a:Ad):TS:=
    rdMarkOf K
theorem pr_p28 (T:Tx K mg a) (hr:Room 0 (A.deeper (envOfC "mark_of" (defScope s_p28) s.heap.objs.size f cdv))) :
    QSs (cxOf CX0 P w K mg base ["letters", "number", "long", "text", "rest", "step"] "mark_of" (defScope s_p28) f cdv A outer s H E).nox (defBody s_p28) (rd_p28 K a) := by
  delta rd_p28 rdMarkOf
  exact kss_cons (ks_set (i:=3) sc_p28.nd (ke_txt (by kernel_rfl)))
      (kss_cons (ks_set (i:=4) sc_p28.nd (kv 1))
      (kss_cons (ks_for (ki_range1 T.n_range (ka_cons (kv 2) ka_nil)) (kg_name (i:=5) sc_p28.nd) (kss_cons (ks_set (i:=3) sc_p28.nd (ke_op op_addS (ke_ix ix_strL (ke_gstr T.c_SMALL small_eq) (ke_op op_mod (kv 4) (kv 0))) (kv 3)))
      (kss_one (ks_set (i:=4) sc_p28.nd (ke_op op_fdiv (kv 4) (kv 0))))))
      (kss_one (ks_ret (ke_bm PySem.F.plainAttrs_str PySem.F.slot_str_rstrip PySem.F.type_str_rstrip mt_rstrip (kv 3) (ka_cons (ke_txt (by kernel_rfl)) ka_nil))))))
theorem sc_p21 : FnScope ["letters", "hands", "hand"] ["letters", "hands", "hand"] (defScope s_p21) := ⟨rfl, rfl, rfl, by decide +kernel, rfl, by decide +kernel, by decide +kernel⟩
def rd_p21 (K:PySem.W.Frag) (a:Ad):TS:=
    rdEnds K
theorem pr_p21 (T:Tx K mg a) (hr:Room 0 (A.deeper (envOfC "ends_of" (defScope s_p21) s.heap.objs.size f cdv))) :
    QSs (cxOf CX0 P w K mg base ["letters", "hands", "hand"] "ends_of" (defScope s_p21) f cdv A outer s H E).nox (defBody s_p21) (rd_p21 K a) := by
  delta rd_p21 rdEnds
  exact kss_one (ks_ret (ke_bm PySem.F.plainAttrs_str PySem.F.slot_str_join PySem.F.type_str_join mt_join (ke_txt (by kernel_rfl)) (ka_cons (ke_comp [("hand", 2), ("hands", 1)] (ki_range2 T.n_range (ka_cons ke_int (ka_cons (kv 0) ka_nil))) (fun _ _ _ _ _ => ⟨kts_one (kt_cmp op_eq (ke_op op_mod (ke_op op_sub (kv 0) ke_int) (kvc 2)) (kvc 1)), ke_ix ix_strL (ke_gstr T.c_SMALL small_eq) (kv 0)⟩)) ka_nil)))
theorem sc_p16 : FnScope ["low", "high"] ["low", "high"] (defScope s_p16) := ⟨rfl, rfl, rfl, by decide +kernel, rfl, by decide +kernel, by decide +kernel⟩
def rd_p16 (K:PySem.W.Frag) (a:Ad) (E:XK):TS:=
    rdAskRoom a.c_NoRoom E [108,111,119,32,100,111,101,115,32,110,111,116,32,99,111,109,101,32,97,104,101,97,100,32,111,102,32,104,105,103,104]
theorem pr_p16 (T:Tx K mg a) (hr:Room 0 (A.deeper (envOfC "ask_room" (defScope s_p16) s.heap.objs.size f cdv))) :
    QSs (cxOf (CX1 P w) P w K mg base ["low", "high"] "ask_room" (defScope s_p16) f cdv A outer s H E) (defBody s_p16) (rd_p16 K a E) := by
  delta rd_p16 rdAskRoom
  exact kss_one (ks_if (kt_w (kw_and (kt_notN (kv 0)) (kw_and (kt_notN (kv 1)) (kw_and1 (kt_cmp op_geS (kv 0) (kv 1)))))) (kss_one (ks_raise PySem.F.excBase_ValueError T.x_NoRoom T.m_NoRoom (ka_cons (ke_txt (by kernel_rfl)) ka_nil) (fun _ _ _ _ _ _ _ I m q=>made_def I m q))) (kss_nil))
theorem sc_p24 : FnScope ["letters", "high", "long"] ["letters", "high", "long"] (defScope s_p24) := ⟨rfl, rfl, rfl, by decide +kernel, rfl, by decide +kernel, by decide +kernel⟩
def rd_p24 (K:PySem.W.Frag) (a:Ad):TS:=
    rdHigh
theorem pr_p24 (T : Tx K mg a) (G_p33 : FnOk P w K mg base CX0 1 a.f_p33 a.fd_p33 ["letters", "long"] spPower) (G_p37 : FnOk P w K mg base CX0 2 a.f_p37 a.fd_p37 ["letters", "mark", "long"] spWhole) (hr : Room 2 (A.deeper (envOfC "high_whole_of" (defScope s_p24) s.heap.objs.size f cdv))) :
    QSs (cxOf CX0 P w K mg base ["letters", "high", "long"] "high_whole_of" (defScope s_p24) f cdv A outer s H E).nox (defBody s_p24) (rd_p24 K a) := by
  delta rd_p24 rdHigh
  exact kss_cons (ks_if (kt_isN (kv 1)) (kss_one (ks_ret (ke_call G_p33 (by exact hr.mono (by decide)) T.g_p33 T.F_p33.kp T.b_p33 pass0 (ka_cons (kv 0) (ka_cons (kv 2) ka_nil))))) (kss_nil))
      (kss_one (ks_ret (ke_call G_p37 (by exact hr.mono (by decide)) T.g_p37 T.F_p37.kp T.b_p37 pass0 (ka_cons (kv 0) (ka_cons (kv 1) (ka_cons (kv 2) ka_nil))))))
theorem sc_p31 : FnScope ["letters", "ends", "number", "lesser"] ["letters", "ends", "number"] (defScope s_p31) := ⟨rfl, rfl, rfl, by decide +kernel, rfl, by decide +kernel, by decide +kernel⟩
def rd_p31 (K:PySem.W.Frag) (a:Ad):TS:=
    rdBelow K
theorem pr_p31 (T:Tx K mg a) (hr:Room 0 (A.deeper (envOfC "owned_below" (defScope s_p31) s.heap.objs.size f cdv))) :
    QSs (cxOf CX0 P w K mg base ["letters", "ends", "number", "lesser"] "owned_below" (defScope s_p31) f cdv A outer s H E).nox (defBody s_p31) (rd_p31 K a) := by
  delta rd_p31 rdBelow
  exact kss_cons (ks_comp (i := 3) [("number", 2), ("letters", 0)] sc_p31.nd (ki_str (kv 1)) (fun _ _ _ _ _ => ⟨kts_one (kt_cmp op_ltS (kv 0) (ke_ix ix_strL (ke_gstr T.c_SMALL small_eq) (ke_op op_mod (kvc 1) (kvc 2)))), kv 0⟩))
      (kss_one (ks_ret (ke_op op_add (ke_op op_mulB (ke_op op_fdiv (kvc 2) (kvc 0)) (ke_callB call_lenS T.n_len PyProof.Rows.Boot.«len» (ka_cons (kv 1) ka_nil))) (ke_callB call_len_seq T.n_len PyProof.Rows.Boot.«len» (ka_cons (kv 3) ka_nil)))))
theorem sc_p32 : FnScope ["letters", "ends", "low_whole"] ["letters", "ends", "low_whole"] (defScope s_p32) := ⟨rfl, rfl, rfl, by decide +kernel, rfl, by decide +kernel, by decide +kernel⟩
def rd_p32 (K:PySem.W.Frag) (a:Ad):TS:=
    rdUpLow
theorem pr_p32 (T : Tx K mg a) (G_p31 : FnOk P w K mg base CX0 1 a.f_p31 a.fd_p31 ["letters", "ends", "number"] spBelow) (hr : Room 1 (A.deeper (envOfC "owned_up_to_low" (defScope s_p32) s.heap.objs.size f cdv))) :
    QSs (cxOf CX0 P w K mg base ["letters", "ends", "low_whole"] "owned_up_to_low" (defScope s_p32) f cdv A outer s H E).nox (defBody s_p32) (rd_p32 K a) := by
  delta rd_p32 rdUpLow
  exact kss_one (ks_ret (ke_call G_p31 (by exact hr.mono (by decide)) T.g_p31 T.F_p31.kp T.b_p31 pass0 (ka_cons (kv 0) (ka_cons (kv 1) (ka_cons (ke_op op_add (kv 2) ke_int) ka_nil)))))
theorem sc_p30 : FnScope ["letters", "ends", "high", "high_whole", "long", "beginnings"] ["letters", "ends", "high", "high_whole", "long", "beginnings"] (defScope s_p30) := ⟨rfl, rfl, rfl, by decide +kernel, rfl, by decide +kernel, by decide +kernel⟩
def rd_p30 (K:PySem.W.Frag) (a:Ad):TS:=
    rdAhead
theorem pr_p30 (T : Tx K mg a) (G_p31 : FnOk P w K mg base CX0 1 a.f_p31 a.fd_p31 ["letters", "ends", "number"] spBelow) (hr : Room 1 (A.deeper (envOfC "owned_ahead_of_high" (defScope s_p30) s.heap.objs.size f cdv))) :
    QSs (cxOf CX0 P w K mg base ["letters", "ends", "high", "high_whole", "long", "beginnings"] "owned_ahead_of_high" (defScope s_p30) f cdv A outer s H E).nox (defBody s_p30) (rd_p30 K a) := by
  delta rd_p30 rdAhead
  exact kss_cons (ks_if (kt_w (kw_and (kt_val (kv 5)) (kw_and (kt_notN (kv 2)) (kw_and1 (kt_cmp op_lt (kv 4) (ke_callB call_lenS T.n_len PyProof.Rows.Boot.«len» (ka_cons (kv 2) ka_nil))))))) (kss_one (ks_ret (ke_call G_p31 (by exact hr.mono (by decide)) T.g_p31 T.F_p31.kp T.b_p31 pass0 (ka_cons (kv 0) (ka_cons (kv 1) (ka_cons (ke_op op_add (kv 3) ke_int) ka_nil)))))) (kss_nil))
      (kss_one (ks_ret (ke_call G_p31 (by exact hr.mono (by decide)) T.g_p31 T.F_p31.kp T.b_p31 pass0 (ka_cons (kv 0) (ka_cons (kv 1) (ka_cons (kv 3) ka_nil))))))
theorem sc_p20 : FnScope ["letters", "ends", "low", "high", "long", "beginnings", "low_whole", "high_whole", "ahead"] ["letters", "ends", "low", "high", "long", "beginnings"] (defScope s_p20) := ⟨rfl, rfl, rfl, by decide +kernel, rfl, by decide +kernel, by decide +kernel⟩
def rd_p20 (K:PySem.W.Frag) (a:Ad):TS:=
    rdCounted
theorem pr_p20 (T : Tx K mg a) (G_p37 : FnOk P w K mg base CX0 2 a.f_p37 a.fd_p37 ["letters", "mark", "long"] spWhole) (G_p24 : FnOk P w K mg base CX0 3 a.f_p24 a.fd_p24 ["letters", "high", "long"] spHigh) (G_p30 : FnOk P w K mg base CX0 2 a.f_p30 a.fd_p30 ["letters", "ends", "high", "high_whole", "long", "beginnings"] spAhead) (G_p32 : FnOk P w K mg base CX0 2 a.f_p32 a.fd_p32 ["letters", "ends", "low_whole"] spUpLow) (hr : Room 3 (A.deeper (envOfC "counted_at" (defScope s_p20) s.heap.objs.size f cdv))) :
    QSs (cxOf CX0 P w K mg base ["letters", "ends", "low", "high", "long", "beginnings", "low_whole", "high_whole", "ahead"] "counted_at" (defScope s_p20) f cdv A outer s H E).nox (defBody s_p20) (rd_p20 K a) := by
  delta rd_p20 rdCounted
  exact kss_cons (ks_set (i:=6) sc_p20.nd (ke_call G_p37 (by exact hr.mono (by decide)) T.g_p37 T.F_p37.kp T.b_p37 pass0 (ka_cons (kv 0) (ka_cons (kv 2) (ka_cons (kv 4) ka_nil)))))
      (kss_cons (ks_set (i:=7) sc_p20.nd (ke_call G_p24 (by exact hr.mono (by decide)) T.g_p24 T.F_p24.kp T.b_p24 pass0 (ka_cons (kv 0) (ka_cons (kv 3) (ka_cons (kv 4) ka_nil)))))
      (kss_cons (ks_set (i:=8) sc_p20.nd (ke_call G_p30 (by exact hr.mono (by decide)) T.g_p30 T.F_p30.kp T.b_p30 pass0 (ka_cons (kv 0) (ka_cons (kv 1) (ka_cons (kv 3) (ka_cons (kv 7) (ka_cons (kv 4) (ka_cons (kv 5) ka_nil))))))))
      (kss_one (ks_ret (ke_op op_sub (kv 8) (ke_call G_p32 (by exact hr.mono (by decide)) T.g_p32 T.F_p32.kp T.b_p32 pass0 (ka_cons (kv 0) (ka_cons (kv 1) (ka_cons (kv 6) ka_nil)))))))))
theorem sc_p29 : FnScope ["letters", "hands", "hand", "low", "high", "long", "number", "ends", "low_whole", "place", "last"] ["letters", "hands", "hand", "low", "high", "long", "number"] (defScope s_p29) := ⟨rfl, rfl, rfl, by decide +kernel, rfl, by decide +kernel, by decide +kernel⟩
def rd_p29 (K:PySem.W.Frag) (a:Ad) (E:XK):TS:=
    rdNth K a.c_NoRoom E
theorem pr_p29 (T : Tx K mg a) (G_p16 : FnOk P w K mg base (CX1 P w) 1 a.f_p16 a.fd_p16 ["low", "high"] (spAskRoom a.c_NoRoom)) (G_p21 : FnOk P w K mg base CX0 1 a.f_p21 a.fd_p21 ["letters", "hands", "hand"] spEnds) (G_p37 : FnOk P w K mg base CX0 2 a.f_p37 a.fd_p37 ["letters", "mark", "long"] spWhole) (G_p32 : FnOk P w K mg base CX0 2 a.f_p32 a.fd_p32 ["letters", "ends", "low_whole"] spUpLow) (G_p28 : FnOk P w K mg base CX0 1 a.f_p28 a.fd_p28 ["letters", "number", "long"] spMarkOf) (hr : Room 2 (A.deeper (envOfC "nth_mark" (defScope s_p29) s.heap.objs.size f cdv))) :
    QSs (cxOf (CX1 P w) P w K mg base ["letters", "hands", "hand", "low", "high", "long", "number", "ends", "low_whole", "place", "last"] "nth_mark" (defScope s_p29) f cdv A outer s H E) (defBody s_p29) (rd_p29 K a E) := by
  delta rd_p29 rdNth
  exact kss_cons (ks_expr (ke_call G_p16 (by exact hr.mono (by decide)) T.g_p16 T.F_p16.kp T.b_p16 pass_def (ka_cons (kv 3) (ka_cons (kv 4) ka_nil))))
      (kss_cons (ks_nox (ks_set (i:=7) sc_p29.nd (ke_call G_p21 (by exact hr.mono (by decide)) T.g_p21 T.F_p21.kp T.b_p21 pass0 (ka_cons (kv 0) (ka_cons (kv 1) (ka_cons (kv 2) ka_nil))))))
      (kss_cons (ks_nox (ks_set (i:=8) sc_p29.nd (ke_call G_p37 (by exact hr.mono (by decide)) T.g_p37 T.F_p37.kp T.b_p37 pass0 (ka_cons (kv 0) (ka_cons (kv 3) (ka_cons (kv 5) ka_nil))))))
      (kss_cons (ks_nox (ks_set (i:=9) sc_p29.nd (ke_op op_add (ke_call G_p32 (by exact hr.mono (by decide)) T.g_p32 T.F_p32.kp T.b_p32 pass0 (ka_cons (kv 0) (ka_cons (kv 7) (ka_cons (kv 8) ka_nil)))) (kv 6))))
      (kss_cons (ks_nox (ks_set (i:=10) sc_p29.nd (ke_bm PySem.F.plainAttrs_str PySem.F.slot_str_index PySem.F.type_str_index mt_index (ke_gstr T.c_SMALL small_eq) (ka_cons (ke_ix ix_strL (kv 7) (ke_op op_mod (kv 9) (ke_callB call_lenS T.n_len PyProof.Rows.Boot.«len» (ka_cons (kv 7) ka_nil)))) ka_nil))))
      (kss_one (ks_nox (ks_ret (ke_call G_p28 (by exact hr.mono (by decide)) T.g_p28 T.F_p28.kp T.b_p28 pass0 (ka_cons (kv 0) (ka_cons (ke_op op_add (ke_op op_mulB (ke_op op_fdiv (kv 9) (ke_callB call_lenS T.n_len PyProof.Rows.Boot.«len» (ka_cons (kv 7) ka_nil))) (kv 0)) (kv 10)) (ka_cons (kv 5) ka_nil)))))))))))
theorem sc_p27 : FnScope ["letters", "ends", "low", "high", "many", "beginnings", "long", "room", "low_whole", "high_whole", "ahead"] ["letters", "ends", "low", "high", "many", "beginnings"] (defScope s_p27) := ⟨rfl, rfl, rfl, by decide +kernel, rfl, by decide +kernel, by decide +kernel⟩
def rd_p27 (K:PySem.W.Frag) (a:Ad):TS:=
    rdLeastC
theorem pr_p27 (T : Tx K mg a) (G_p24 : FnOk P w K mg base CX0 3 a.f_p24 a.fd_p24 ["letters", "high", "long"] spHigh) (G_p22 : FnOk P w K mg base CX0 1 a.f_p22 a.fd_p22 ["mark", "place"] spFig) (G_p30 : FnOk P w K mg base CX0 2 a.f_p30 a.fd_p30 ["letters", "ends", "high", "high_whole", "long", "beginnings"] spAhead) (G_p32 : FnOk P w K mg base CX0 2 a.f_p32 a.fd_p32 ["letters", "ends", "low_whole"] spUpLow) (hr : Room 3 (A.deeper (envOfC "least_counted" (defScope s_p27) s.heap.objs.size f cdv))) :
    QSs (cxOf CX0 P w K mg base ["letters", "ends", "low", "high", "many", "beginnings", "long", "room", "low_whole", "high_whole", "ahead"] "least_counted" (defScope s_p27) f cdv A outer s H E).nox (defBody s_p27) (rd_p27 K a) := by
  delta rd_p27 rdLeastC
  exact kss_cons (ks_set (i:=6) sc_p27.nd ke_int)
      (kss_cons (ks_set (i:=7) sc_p27.nd ke_int)
      (kss_cons (ks_set (i:=8) sc_p27.nd ke_int)
      (kss_cons (ks_set (i:=9) sc_p27.nd (ke_call G_p24 (by exact hr.mono (by decide)) T.g_p24 T.F_p24.kp T.b_p24 pass0 (ka_cons (kv 0) (ka_cons (kv 3) (ka_cons ke_int ka_nil)))))
      (kss_cons (ks_while (kt_cmp op_lt (kv 7) (kv 4)) (kss_cons (ks_set (i:=8) sc_p27.nd (ke_op op_add (ke_op op_mulB (kv 8) (kv 0)) (ke_call G_p22 (by exact hr.mono (by decide)) T.g_p22 T.F_p22.kp T.b_p22 pass0 (ka_cons (kv 2) (ka_cons (kv 6) ka_nil)))))
      (kss_cons (ks_set (i:=9) sc_p27.nd (ke_op op_add (ke_op op_mulB (kv 9) (kv 0)) (ke_call G_p22 (by exact hr.mono (by decide)) T.g_p22 T.F_p22.kp T.b_p22 pass0 (ka_cons (kv 3) (ka_cons (kv 6) ka_nil)))))
      (kss_cons (ks_set (i:=6) sc_p27.nd (ke_op op_add (kv 6) ke_int))
      (kss_cons (ks_set (i:=10) sc_p27.nd (ke_call G_p30 (by exact hr.mono (by decide)) T.g_p30 T.F_p30.kp T.b_p30 pass0 (ka_cons (kv 0) (ka_cons (kv 1) (ka_cons (kv 3) (ka_cons (kv 9) (ka_cons (kv 6) (ka_cons (kv 5) ka_nil))))))))
      (kss_one (ks_set (i:=7) sc_p27.nd (ke_op op_sub (kv 10) (ke_call G_p32 (by exact hr.mono (by decide)) T.g_p32 T.F_p32.kp T.b_p32 pass0 (ka_cons (kv 0) (ka_cons (kv 1) (ka_cons (kv 8) ka_nil))))))))))))
      (kss_one (ks_ret (kv 6)))))))
theorem sc_p36 : FnScope ["letters", "low", "high", "ends", "long", "many"] ["letters", "low", "high"] (defScope s_p36) := ⟨rfl, rfl, rfl, by decide +kernel, rfl, by decide +kernel, by decide +kernel⟩
def rd_p36 (K:PySem.W.Frag) (a:Ad) (E:XK):TS:=
    rdStem a.c_NoRoom E
theorem pr_p36 (T : Tx K mg a) (G_p16 : FnOk P w K mg base (CX1 P w) 1 a.f_p16 a.fd_p16 ["low", "high"] (spAskRoom a.c_NoRoom)) (G_p21 : FnOk P w K mg base CX0 1 a.f_p21 a.fd_p21 ["letters", "hands", "hand"] spEnds) (G_p27 : FnOk P w K mg base CX0 4 a.f_p27 a.fd_p27 ["letters", "ends", "low", "high", "many", "beginnings"] spLeastC) (G_p20 : FnOk P w K mg base CX0 4 a.f_p20 a.fd_p20 ["letters", "ends", "low", "high", "long", "beginnings"] spCounted) (G_p29 : FnOk P w K mg base (CX1 P w) 3 a.f_p29 a.fd_p29 ["letters", "hands", "hand", "low", "high", "long", "number"] (spNth a.c_NoRoom)) (hr : Room 4 (A.deeper (envOfC "stem_between" (defScope s_p36) s.heap.objs.size f cdv))) :
    QSs (cxOf (CX1 P w) P w K mg base ["letters", "low", "high", "ends", "long", "many"] "stem_between" (defScope s_p36) f cdv A outer s H E) (defBody s_p36) (rd_p36 K a E) := by
  delta rd_p36 rdStem
  exact kss_cons (ks_expr (ke_call G_p16 (by exact hr.mono (by decide)) T.g_p16 T.F_p16.kp T.b_p16 pass_def (ka_cons (kv 1) (ka_cons (kv 2) ka_nil))))
      (kss_cons (ks_nox (ks_set (i:=3) sc_p36.nd (ke_call G_p21 (by exact hr.mono (by decide)) T.g_p21 T.F_p21.kp T.b_p21 pass0 (ka_cons (kv 0) (ka_cons ke_int (ka_cons ke_int ka_nil))))))
      (kss_cons (ks_nox (ks_set (i:=4) sc_p36.nd (ke_call G_p27 (by exact hr.mono (by decide)) T.g_p27 T.F_p27.kp T.b_p27 pass0 (ka_cons (kv 0) (ka_cons (kv 3) (ka_cons (kv 1) (ka_cons (kv 2) (ka_cons ke_int (ka_cons ke_bl ka_nil)))))))))
      (kss_cons (ks_nox (ks_set (i:=5) sc_p36.nd (ke_call G_p20 (by exact hr.mono (by decide)) T.g_p20 T.F_p20.kp T.b_p20 pass0 (ka_cons (kv 0) (ka_cons (kv 3) (ka_cons (kv 1) (ka_cons (kv 2) (ka_cons (kv 4) (ka_cons ke_bl ka_nil)))))))))
      (kss_one (ks_ret (ke_call G_p29 (by exact hr.mono (by decide)) T.g_p29 T.F_p29.kp T.b_p29 pass_def (ka_cons (kv 0) (ka_cons ke_int (ka_cons ke_int (ka_cons (kv 1) (ka_cons (kv 2) (ka_cons (kv 4) (ka_cons (ke_op op_fdiv (ke_op op_sub (kv 5) ke_int) ke_int) ka_nil)))))))))))))
theorem sc_p34 : FnScope ["rows", "mark", "first", "last", "middle"] ["rows", "mark"] (defScope s_p34) := ⟨rfl, rfl, rfl, by decide +kernel, rfl, by decide +kernel, by decide +kernel⟩
def rd_p34 (K:PySem.W.Frag) (a:Ad):TS:=
    rdAheadR K
theorem pr_p34 (T:Tx K mg a) (hr:Room 0 (A.deeper (envOfC "rows_ahead" (defScope s_p34) s.heap.objs.size f cdv))) :
    QSs (cxOf CX0 P w K mg base ["rows", "mark", "first", "last", "middle"] "rows_ahead" (defScope s_p34) f cdv A outer s H E).nox (defBody s_p34) (rd_p34 K a) := by
  delta rd_p34 rdAheadR
  exact kss_cons (ks_set (i:=2) sc_p34.nd ke_int)
      (kss_cons (ks_set (i:=3) sc_p34.nd (ke_callB call_len_seq T.n_len PyProof.Rows.Boot.«len» (ka_cons (kv 0) ka_nil)))
      (kss_cons (ks_while (kt_cmp op_lt (kv 2) (kv 3)) (kss_cons (ks_set (i:=4) sc_p34.nd (ke_op op_fdiv (ke_op op_add (kv 2) (kv 3)) ke_int))
      (kss_one (ks_if (kt_cmp op_ltS (ke_ix ix_tup (ke_ix ix_list (kv 0) (kv 4)) ke_int) (kv 1)) (kss_one (ks_set (i:=2) sc_p34.nd (ke_op op_add (kv 4) ke_int))) (kss_one (ks_set (i:=3) sc_p34.nd (kv 4)))))))
      (kss_one (ks_ret (kv 2)))))
theorem sc_p23 : FnScope ["rows", "old", "new"] ["rows"] (defScope s_p23) := ⟨rfl, rfl, rfl, by decide +kernel, rfl, by decide +kernel, by decide +kernel⟩
def rd_p23 (K:PySem.W.Frag) (a:Ad):TS:=
    rdFirstN K
theorem pr_p23 (T:Tx K mg a) (hr:Room 0 (A.deeper (envOfC "first_new" (defScope s_p23) s.heap.objs.size f cdv))) :
    QSs (cxOf CX0 P w K mg base ["rows", "old", "new"] "first_new" (defScope s_p23) f cdv A outer s H E).nox (defBody s_p23) (rd_p23 K a) := by
  delta rd_p23 rdFirstN
  exact kss_cons (ks_for (ki_list (kv 0)) (kg_tup (kgs_cons (kg_name (i:=1) sc_p23.nd) (kgs_cons (kg_name (i:=2) sc_p23.nd) kgs_nil))) (kss_one (ks_if (kt_notN (kv 2)) (kss_one (ks_ret (kv 2))) (kss_nil))))
      (kss_one (ks_ret ke_non))
theorem sc_p18 : FnScope ["letters", "rows", "mark", "stems", "place", "low", "high"] ["letters", "rows", "mark", "stems"] (defScope s_p18) := ⟨rfl, rfl, rfl, by decide +kernel, rfl, by decide +kernel, by decide +kernel⟩
def rd_p18 (K:PySem.W.Frag) (a:Ad):TS:=
    rdCarK K a.c_NoRoom
theorem pr_p18 (T : Tx K mg a) (G_p34 : FnOk P w K mg base CX0 1 a.f_p34 a.fd_p34 ["rows", "mark"] (spAheadR K)) (G_p23 : FnOk P w K mg base CX0 1 a.f_p23 a.fd_p23 ["rows"] (spFirstN K)) (G_p36 : FnOk P w K mg base (CX1 P w) 5 a.f_p36 a.fd_p36 ["letters", "low", "high"] (spStem a.c_NoRoom)) (hr : Room 5 (A.deeper (envOfC "carried_knowing" (defScope s_p18) s.heap.objs.size f cdv))) :
    QSs (cxOf CX0 P w K mg base ["letters", "rows", "mark", "stems", "place", "low", "high"] "carried_knowing" (defScope s_p18) f cdv A outer s H E).nox (defBody s_p18) (rd_p18 K a) := by
  have hu:=Room.units hr
  delta rd_p18 rdCarK
  exact kss_cons (ks_set (i:=4) sc_p18.nd (ke_call G_p34 (by exact hr.mono (by decide)) T.g_p34 T.F_p34.kp T.b_p34 pass0 (ka_cons (kv 1) (ka_cons (kv 2) ka_nil))))
      (kss_cons (ks_if (kt_w (kw_and (kt_cmp op_lt (kv 4) (ke_callB call_len_seq T.n_len PyProof.Rows.Boot.«len» (ka_cons (kv 1) ka_nil))) (kw_and1 (kt_cmp op_eq (ke_ix ix_tup (ke_ix ix_list (kv 1) (kv 4)) ke_int) (kv 2))))) (kss_one (ks_ret (ke_ix ix_tup (ke_ix ix_list (kv 1) (kv 4)) ke_int))) (kss_nil))
      (kss_cons (ks_set (i:=5) sc_p18.nd (ke_call G_p23 (by exact hr.mono (by decide)) T.g_p23 T.F_p23.kp T.b_p23 pass0 (ka_cons (ke_listRev (by kernel_rfl) T.n_list T.n_reversed (ka_cons (ke_slice sl_list (kv 1) ko_none (ko_some (kv 4))) ka_nil)) ka_nil)))
      (kss_cons (ks_set (i:=6) sc_p18.nd (ke_call G_p23 (by exact hr.mono (by decide)) T.g_p23 T.F_p23.kp T.b_p23 pass0 (ka_cons (ke_slice sl_list (kv 1) (ko_some (kv 4)) ko_none) ka_nil)))
      (kss_cons (ks_if (kt_cmp (op_notInD hu) (ke_tup (ka_cons (kv 5) (ka_cons (kv 6) ka_nil))) (kv 3)) (kss_one (ks_dput hu (kv 3) (ke_tup (ka_cons (kv 5) (ka_cons (kv 6) ka_nil))) (ke_call G_p36 (by exact hr.mono (by decide)) T.g_p36 T.F_p36.kp T.b_p36 pass1 (ka_cons (kv 0) (ka_cons (kv 5) (ka_cons (kv 6) ka_nil)))))) (kss_nil))
      (kss_one (ks_ret (ke_op op_addS (ke_dget hu (kv 3) (ke_tup (ka_cons (kv 5) (ka_cons (kv 6) ka_nil)))) (kv 2))))))))
theorem sc_p35 : FnScope ["letters", "hands", "renewals", "things", "taken"] ["letters", "hands", "renewals", "things", "taken"] (defScope s_p35) := ⟨rfl, rfl, rfl, by decide +kernel, rfl, by decide +kernel, by decide +kernel⟩
def rd_p35 (K:PySem.W.Frag) (a:Ad):TS:=
    rdStateOf K
theorem pr_p35 (T:Tx K mg a) (hr:Room 0 (A.deeper (envOfC "state_of" (defScope s_p35) s.heap.objs.size f cdv))) :
    QSs (cxOf CX0 P w K mg base ["letters", "hands", "renewals", "things", "taken"] "state_of" (defScope s_p35) f cdv A outer s H E).nox (defBody s_p35) (rd_p35 K a) := by
  delta rd_p35 rdStateOf
  exact kss_one (ks_ret (ke_tup (ka_cons (kv 0) (ka_cons (kv 1) (ka_cons (ke_comp [] (ki_list (kv 2)) (fun _ _ _ _ _=>⟨kts_nil,ke_callTy call_list_of T.n_list PyProof.Rows.Boot.«list» (ka_cons (kv 0) ka_nil)⟩)) (ka_cons (ke_callTy call_list_of T.n_list PyProof.Rows.Boot.«list» (ka_cons (kv 3) ka_nil)) (ka_cons (ke_callTy call_list_of T.n_list PyProof.Rows.Boot.«list» (ka_cons (kv 4) ka_nil)) ka_nil)))))))
theorem sc_p15 : FnScope ["fewer", "more", "shared"] ["fewer", "more"] (defScope s_p15) := ⟨rfl, rfl, rfl, by decide +kernel, rfl, by decide +kernel, by decide +kernel⟩
def rd_p15 (K:PySem.W.Frag) (a:Ad):TS:=
    rdMeet K
theorem pr_p15 (T:Tx K mg a) (hr:Room 0 (A.deeper (envOfC "ask_meeting" (defScope s_p15) s.heap.objs.size f cdv))) :
    QSs (cxOf CX0 P w K mg base ["fewer", "more", "shared"] "ask_meeting" (defScope s_p15) f cdv A outer s H E).nox (defBody s_p15) (rd_p15 K a) := by
  have hu:=Room.units hr
  delta rd_p15 rdMeet
  exact kss_cons (ks_set (i:=2) sc_p15.nd (ke_slice sl_list (ke_ix ix_tup (kv 1) (ke_gint T.c_RENEWALS)) ko_none (ko_some (ke_callB call_len_seq T.n_len PyProof.Rows.Boot.«len» (ka_cons (ke_ix ix_tup (kv 0) (ke_gint T.c_RENEWALS)) ka_nil)))))
      (kss_one (ks_if (kt_w (kw_or (kt_cmp op_ne (ke_ix ix_tup (kv 0) (ke_gint T.c_LETTERS)) (ke_ix ix_tup (kv 1) (ke_gint T.c_LETTERS))) (kw_or (kt_cmp op_ne (ke_ix ix_tup (kv 0) (ke_gint T.c_HANDS)) (ke_ix ix_tup (kv 1) (ke_gint T.c_HANDS))) (kw_or1 (kt_cmp (op_neD hu) (ke_ix ix_tup (kv 0) (ke_gint T.c_RENEWALS)) (kv 2)))))) (kss_one ks_never) (kss_nil)))
theorem sc_p17 : FnScope ["letters", "renewals", "mark", "stems", "reached", "rows"] ["letters", "renewals", "mark", "stems"] (defScope s_p17) := ⟨rfl, rfl, rfl, by decide +kernel, rfl, by decide +kernel, by decide +kernel⟩
def rd_p17 (K:PySem.W.Frag) (a:Ad):TS:=
    rdCarAll K
theorem pr_p17 (T : Tx K mg a) (G_p18 : FnOk P w K mg base CX0 6 a.f_p18 a.fd_p18 ["letters", "rows", "mark", "stems"] (spCarK K)) (hr : Room 6 (A.deeper (envOfC "carried_by_all" (defScope s_p17) s.heap.objs.size f cdv))) :
    QSs (cxOf CX0 P w K mg base ["letters", "renewals", "mark", "stems", "reached", "rows"] "carried_by_all" (defScope s_p17) f cdv A outer s H E).nox (defBody s_p17) (rd_p17 K a) := by
  delta rd_p17 rdCarAll
  exact kss_cons (ks_set (i:=4) sc_p17.nd (kv 2))
      (kss_cons (ks_for (ki_list (kv 1)) (kg_name (i:=5) sc_p17.nd) (kss_cons (ks_if (kt_isN (kv 4)) (kss_one (ks_ret ke_non)) (kss_nil))
      (kss_one (ks_set (i:=4) sc_p17.nd (ke_call G_p18 (by exact hr.mono (by decide)) T.g_p18 T.F_p18.kp T.b_p18 pass0 (ka_cons (kv 0) (ka_cons (kv 5) (ka_cons (kv 4) (ka_cons (kv 3) ka_nil)))))))))
      (kss_one (ks_ret (kv 4))))
theorem sc_p19 : FnScope ["state", "renewals", "stems", "reached", "marks", "mark"] ["state", "renewals"] (defScope s_p19) := ⟨rfl, rfl, rfl, by decide +kernel, rfl, by decide +kernel, by decide +kernel⟩
def rd_p19 (K:PySem.W.Frag) (a:Ad):TS:=
    rdCarMarks K
theorem pr_p19 (T : Tx K mg a) (G_p17 : FnOk P w K mg base CX0 7 a.f_p17 a.fd_p17 ["letters", "renewals", "mark", "stems"] (spCarAll K)) (hr : Room 7 (A.deeper (envOfC "carried_marks" (defScope s_p19) s.heap.objs.size f cdv))) :
    QSs (cxOf CX0 P w K mg base ["state", "renewals", "stems", "reached", "marks", "mark"] "carried_marks" (defScope s_p19) f cdv A outer s H E).nox (defBody s_p19) (rd_p19 K a) := by
  have hu:=Room.units hr
  delta rd_p19 rdCarMarks
  exact kss_cons (ks_set (i:=2) sc_p19.nd ke_dnewT)
      (kss_cons (ks_set (i:=3) sc_p19.nd ke_dnewK)
      (kss_cons (ks_set (i:=4) sc_p19.nd (ke_op op_cat (ke_comp2 [] (ki_list (ke_ix ix_tup (kv 0) (ke_gint T.c_THINGS))) (fun _ _ _ _ _=>⟨kts_nil,kv 0⟩)) (ke_ix ix_tup (kv 0) (ke_gint T.c_TAKEN))))
      (kss_cons (ks_for (ki_list (ke_sortSet (by kernel_rfl) T.n_sorted T.n_set (ka_cons (kv 4) ka_nil) PyProof.Rows.Boot.«sorted» PyProof.Rows.Boot.«set»)) (kg_name (i:=5) sc_p19.nd) (kss_one (ks_dput hu (kv 3) (kv 5) (ke_call G_p17 (by exact hr.mono (by decide)) T.g_p17 T.F_p17.kp T.b_p17 pass0 (ka_cons (ke_ix ix_tup (kv 0) (ke_gint T.c_LETTERS)) (ka_cons (kv 1) (ka_cons (kv 5) (ka_cons (kv 2) ka_nil))))))))
      (kss_one (ks_ret (kv 3))))))
theorem sc_p14 : FnScope ["one", "other", "thing_of", "mark", "thing"] ["one", "other"] (defScope s_p14) := ⟨rfl, rfl, rfl, by decide +kernel, rfl, by decide +kernel, by decide +kernel⟩
def rd_p14 (K:PySem.W.Frag) (a:Ad):TS:=
    rdAllThings K
theorem pr_p14 (T:Tx K mg a) (hr:Room 0 (A.deeper (envOfC "all_things" (defScope s_p14) s.heap.objs.size f cdv))) :
    QSs (cxOf CX0 P w K mg base ["one", "other", "thing_of", "mark", "thing"] "all_things" (defScope s_p14) f cdv A outer s H E).nox (defBody s_p14) (rd_p14 K a) := by
  have hu:=Room.units hr
  delta rd_p14 rdAllThings
  exact kss_cons (ks_set (i:=2) sc_p14.nd ke_dnewK)
      (kss_cons (ks_for (ki_list (ke_op op_cat (kv 0) (kv 1))) (kg_tup (kgs_cons (kg_name (i:=3) sc_p14.nd) (kgs_cons (kg_name (i:=4) sc_p14.nd) kgs_nil))) (kss_one (ks_dput hu (kv 2) (kv 3) (ke_callB (call_min2S (by kernel_rfl)) T.n_min PyProof.Rows.Boot.«min» (ka_cons (kv 4) (ka_cons (ke_dget2 hu (kv 2) (kv 3) (kv 4)) ka_nil))))))
      (kss_one (ks_ret (ke_callB (call_sortedI (by kernel_rfl)) T.n_sorted PyProof.Rows.Boot.«sorted» (ka_cons (ke_bm0 PySem.F.plainAttrs_dict PySem.F.slot_dict_items PySem.F.type_dict_items mt_items (kv 2)) ka_nil)))))
theorem sc_p25 : FnScope ["one", "other", "reached", "things", "taken"] ["one", "other"] (defScope s_p25) := ⟨rfl, rfl, rfl, by decide +kernel, rfl, by decide +kernel, by decide +kernel⟩
def rd_p250 (K:PySem.W.Frag) (a:Ad):TS:=
    tSeq (tIfS (tTest (tOp rGtI (tCB (rLenL K) (tCons (tOp (rIxT K) (tVar 0) (tC (.int 2))) tNil)) (tCB (rLenL K) (tCons (tOp (rIxT K) (tVar 1) (tC (.int 2))) tNil)))) (tNever) (tNext))
      (tSeq (tDrop (tCall (spMeet K) [] E0 (tCons (tVar 0) (tCons (tVar 1) tNil))))
      (tSeq (tAsg (tCall (spCarMarks K) [] E0 (tCons (tVar 0) (tCons (tSl (rSlL K) (tOp (rIxT K) (tVar 1) (tC (.int 2))) (tPart (tCB (rLenL K) (tCons (tOp (rIxT K) (tVar 0) (tC (.int 2))) tNil))) tNoPart) tNil))) (gName 2))
      (tSeq (tCompSet2 K 3 (iList K (tOp (rIxT K) (tVar 0) (tC (.int 3)))) [2] (tB (tNotN (tDGet (tVar 2) (tVar 0)))) (tTup (tCons (tDGet (tVar 2) (tVar 0)) (tCons (tVar 1) tNil))))
      (tSeq (tCompSet 4 (iList K (tOp (rIxT K) (tVar 0) (tC (.int 4)))) [2] (tB (tNotN (tDGet (tVar 1) (tVar 0)))) (tDGet (tVar 1) (tVar 0)))
      (tRet (tCall spStateOf [] E0 (tCons (tOp (rIxT K) (tVar 1) (tC (.int 0))) (tCons (tOp (rIxT K) (tVar 1) (tC (.int 1))) (tCons (tOp (rIxT K) (tVar 1) (tC (.int 2))) (tCons (tCall (spAllThings K) [] E0 (tCons (tVar 3) (tCons (tOp (rIxT K) (tVar 1) (tC (.int 3))) tNil))) (tCons (tCB (rSortSet K) (tCons (tOp rCat (tVar 4) (tOp (rIxT K) (tVar 1) (tC (.int 4)))) tNil)) tNil)))))))))))
theorem pr_p250 (T : Tx K mg a) (G_p15 : FnOk P w K mg base CX0 1 a.f_p15 a.fd_p15 ["fewer", "more"] (spMeet K)) (G_p19 : FnOk P w K mg base CX0 8 a.f_p19 a.fd_p19 ["state", "renewals"] (spCarMarks K)) (G_p14 : FnOk P w K mg base CX0 1 a.f_p14 a.fd_p14 ["one", "other"] (spAllThings K)) (G_p35 : FnOk P w K mg base CX0 1 a.f_p35 a.fd_p35 ["letters", "hands", "renewals", "things", "taken"] spStateOf) (hr : Room 8 (A.deeper (envOfC "laid" (defScope s_p25) s.heap.objs.size f cdv))) :
    QSs (cxOf CX0 P w K mg base ["one", "other", "reached", "things", "taken"] "laid" (defScope s_p25) f cdv A outer s H E).nox (defBody s_p25) (rd_p250 K a) := by
  have hu:=Room.units hr
  exact kss_cons (ks_if (kt_cmp op_gt (ke_callB call_len_seq T.n_len PyProof.Rows.Boot.«len» (ka_cons (ke_ix ix_tup (kv 0) (ke_gint T.c_RENEWALS)) ka_nil)) (ke_callB call_len_seq T.n_len PyProof.Rows.Boot.«len» (ka_cons (ke_ix ix_tup (kv 1) (ke_gint T.c_RENEWALS)) ka_nil))) (kss_one ks_never) (kss_nil))
      (kss_cons (ks_expr (ke_call G_p15 (by exact hr.mono (by decide)) T.g_p15 T.F_p15.kp T.b_p15 pass0 (ka_cons (kv 0) (ka_cons (kv 1) ka_nil))))
      (kss_cons (ks_setc (i:=2) sc_p25.nd (ke_call G_p19 (by exact hr.mono (by decide)) T.g_p19 T.F_p19.kp T.b_p19 pass0 (ka_cons (kv 0) (ka_cons (ke_slice sl_list (ke_ix ix_tup (kv 1) (ke_gint T.c_RENEWALS)) (ko_some (ke_callB call_len_seq T.n_len PyProof.Rows.Boot.«len» (ka_cons (ke_ix ix_tup (kv 0) (ke_gint T.c_RENEWALS)) ka_nil))) ko_none) ka_nil))))
      (kss_cons (ks_comp2 (i:=3) [("reached",2)] sc_p25.nd (ki_list (ke_ix ix_tup (kv 0) (ke_gint T.c_THINGS))) (fun _ _ _ _ _=>⟨kts_one (kt_notN (ke_dget hu (kvc 2) (kv 0))),ke_tup (ka_cons (ke_dget hu (kvc 2) (kv 0)) (ka_cons (kv 1) ka_nil))⟩))
      (kss_cons (ks_comp (i:=4) [("reached",2)] sc_p25.nd (ki_list (ke_ix ix_tup (kv 0) (ke_gint T.c_TAKEN))) (fun _ _ _ _ _=>⟨kts_one (kt_notN (ke_dget hu (kvc 1) (kv 0))),ke_dget hu (kvc 1) (kv 0)⟩))
      (kss_one (ks_ret (ke_call G_p35 (by exact hr.mono (by decide)) T.g_p35 T.F_p35.kp T.b_p35 pass0 (ka_cons (ke_ix ix_tup (kv 1) (ke_gint T.c_LETTERS)) (ka_cons (ke_ix ix_tup (kv 1) (ke_gint T.c_HANDS)) (ka_cons (ke_ix ix_tup (kv 1) (ke_gint T.c_RENEWALS)) (ka_cons (ke_call G_p14 (by exact hr.mono (by decide)) T.g_p14 T.F_p14.kp T.b_p14 pass0 (ka_cons (kv 3) (ka_cons (ke_ix ix_tup (kv 1) (ke_gint T.c_THINGS)) ka_nil))) (ka_cons (ke_sortSet (by kernel_rfl) T.n_sorted T.n_set (ka_cons (ke_op op_cat (kv 4) (ke_ix ix_tup (kv 1) (ke_gint T.c_TAKEN))) ka_nil) PyProof.Rows.Boot.«sorted» PyProof.Rows.Boot.«set») ka_nil))))))))))))
def rd_p25 (K:PySem.W.Frag) (a:Ad):TS:=
    tSeq (tIfS (tTest (tOp rGtI (tCB (rLenL K) (tCons (tOp (rIxT K) (tVar 0) (tC (.int 2))) tNil)) (tCB (rLenL K) (tCons (tOp (rIxT K) (tVar 1) (tC (.int 2))) tNil)))) (tRet (tCall (spLaid0 K) [] E0 (tCons (tVar 1) (tCons (tVar 0) tNil)))) (tNext))
      (tSeq (tDrop (tCall (spMeet K) [] E0 (tCons (tVar 0) (tCons (tVar 1) tNil))))
      (tSeq (tAsg (tCall (spCarMarks K) [] E0 (tCons (tVar 0) (tCons (tSl (rSlL K) (tOp (rIxT K) (tVar 1) (tC (.int 2))) (tPart (tCB (rLenL K) (tCons (tOp (rIxT K) (tVar 0) (tC (.int 2))) tNil))) tNoPart) tNil))) (gName 2))
      (tSeq (tCompSet2 K 3 (iList K (tOp (rIxT K) (tVar 0) (tC (.int 3)))) [2] (tB (tNotN (tDGet (tVar 2) (tVar 0)))) (tTup (tCons (tDGet (tVar 2) (tVar 0)) (tCons (tVar 1) tNil))))
      (tSeq (tCompSet 4 (iList K (tOp (rIxT K) (tVar 0) (tC (.int 4)))) [2] (tB (tNotN (tDGet (tVar 1) (tVar 0)))) (tDGet (tVar 1) (tVar 0)))
      (tRet (tCall spStateOf [] E0 (tCons (tOp (rIxT K) (tVar 1) (tC (.int 0))) (tCons (tOp (rIxT K) (tVar 1) (tC (.int 1))) (tCons (tOp (rIxT K) (tVar 1) (tC (.int 2))) (tCons (tCall (spAllThings K) [] E0 (tCons (tVar 3) (tCons (tOp (rIxT K) (tVar 1) (tC (.int 3))) tNil))) (tCons (tCB (rSortSet K) (tCons (tOp rCat (tVar 4) (tOp (rIxT K) (tVar 1) (tC (.int 4)))) tNil)) tNil)))))))))))
theorem pr_p25 (T : Tx K mg a) (G_p25 : FnOk P w K mg base CX0 9 a.f_p25 a.fd_p25 ["one", "other"] (spLaid0 K)) (G_p15 : FnOk P w K mg base CX0 1 a.f_p15 a.fd_p15 ["fewer", "more"] (spMeet K)) (G_p19 : FnOk P w K mg base CX0 8 a.f_p19 a.fd_p19 ["state", "renewals"] (spCarMarks K)) (G_p14 : FnOk P w K mg base CX0 1 a.f_p14 a.fd_p14 ["one", "other"] (spAllThings K)) (G_p35 : FnOk P w K mg base CX0 1 a.f_p35 a.fd_p35 ["letters", "hands", "renewals", "things", "taken"] spStateOf) (hr : Room 9 (A.deeper (envOfC "laid" (defScope s_p25) s.heap.objs.size f cdv))) :
    QSs (cxOf CX0 P w K mg base ["one", "other", "reached", "things", "taken"] "laid" (defScope s_p25) f cdv A outer s H E).nox (defBody s_p25) (rd_p25 K a) := by
  have hu:=Room.units hr
  exact kss_cons (ks_if (kt_cmp op_gt (ke_callB call_len_seq T.n_len PyProof.Rows.Boot.«len» (ka_cons (ke_ix ix_tup (kv 0) (ke_gint T.c_RENEWALS)) ka_nil)) (ke_callB call_len_seq T.n_len PyProof.Rows.Boot.«len» (ka_cons (ke_ix ix_tup (kv 1) (ke_gint T.c_RENEWALS)) ka_nil))) (kss_one (ks_ret (ke_call G_p25 (by exact hr.mono (by decide)) T.g_p25 T.F_p25.kp T.b_p25 pass0 (ka_cons (kv 1) (ka_cons (kv 0) ka_nil))))) (kss_nil))
      (kss_cons (ks_expr (ke_call G_p15 (by exact hr.mono (by decide)) T.g_p15 T.F_p15.kp T.b_p15 pass0 (ka_cons (kv 0) (ka_cons (kv 1) ka_nil))))
      (kss_cons (ks_setc (i:=2) sc_p25.nd (ke_call G_p19 (by exact hr.mono (by decide)) T.g_p19 T.F_p19.kp T.b_p19 pass0 (ka_cons (kv 0) (ka_cons (ke_slice sl_list (ke_ix ix_tup (kv 1) (ke_gint T.c_RENEWALS)) (ko_some (ke_callB call_len_seq T.n_len PyProof.Rows.Boot.«len» (ka_cons (ke_ix ix_tup (kv 0) (ke_gint T.c_RENEWALS)) ka_nil))) ko_none) ka_nil))))
      (kss_cons (ks_comp2 (i:=3) [("reached",2)] sc_p25.nd (ki_list (ke_ix ix_tup (kv 0) (ke_gint T.c_THINGS))) (fun _ _ _ _ _=>⟨kts_one (kt_notN (ke_dget hu (kvc 2) (kv 0))),ke_tup (ka_cons (ke_dget hu (kvc 2) (kv 0)) (ka_cons (kv 1) ka_nil))⟩))
      (kss_cons (ks_comp (i:=4) [("reached",2)] sc_p25.nd (ki_list (ke_ix ix_tup (kv 0) (ke_gint T.c_TAKEN))) (fun _ _ _ _ _=>⟨kts_one (kt_notN (ke_dget hu (kvc 1) (kv 0))),ke_dget hu (kvc 1) (kv 0)⟩))
      (kss_one (ks_ret (ke_call G_p35 (by exact hr.mono (by decide)) T.g_p35 T.F_p35.kp T.b_p35 pass0 (ka_cons (ke_ix ix_tup (kv 1) (ke_gint T.c_LETTERS)) (ka_cons (ke_ix ix_tup (kv 1) (ke_gint T.c_HANDS)) (ka_cons (ke_ix ix_tup (kv 1) (ke_gint T.c_RENEWALS)) (ka_cons (ke_call G_p14 (by exact hr.mono (by decide)) T.g_p14 T.F_p14.kp T.b_p14 pass0 (ka_cons (kv 3) (ka_cons (ke_ix ix_tup (kv 1) (ke_gint T.c_THINGS)) ka_nil))) (ka_cons (ke_sortSet (by kernel_rfl) T.n_sorted T.n_set (ka_cons (ke_op op_cat (kv 4) (ke_ix ix_tup (kv 1) (ke_gint T.c_TAKEN))) ka_nil) PyProof.Rows.Boot.«sorted» PyProof.Rows.Boot.«set») ka_nil))))))))))))
theorem sc_draw : FnScope ["_law_script", "_law_k", "_law_many", "_law_cell", "_law_seed"] ["_law_script", "_law_k", "_law_many"] (defScope s_draw) := ⟨rfl, rfl, rfl, by decide +kernel, rfl, by decide +kernel, by decide +kernel⟩
def rd_draw (K:PySem.W.Frag) (a:Ad):TS:=
    rdDraw K
theorem pr_draw (T:Tx K mg a) (hr:Room 0 (A.deeper (envOfC "_law_draw" (defScope s_draw) s.heap.objs.size f cdv))) :
    QSs (cxOf CX0 P w K mg base ["_law_script", "_law_k", "_law_many", "_law_cell", "_law_seed"] "_law_draw" (defScope s_draw) f cdv A outer s H E).nox (defBody s_draw) (rd_draw K a) := by
  delta rd_draw rdDraw
  exact kss_cons (ks_set (i:=3) sc_draw.nd (ke_ifExp (kt_cmp op_gt (ke_callB call_len_seq T.n_len PyProof.Rows.Boot.«len» (ka_cons (kv 0) ka_nil)) ke_int) (ke_ix ix_list (kv 0) (ke_op op_mod (kv 1) (ke_callB call_len_seq T.n_len PyProof.Rows.Boot.«len» (ka_cons (kv 0) ka_nil)))) ke_int))
      (kss_cons (ks_if (kt_w (kw_and (kt_cmp op_gt (ke_callB call_len_seq T.n_len PyProof.Rows.Boot.«len» (ka_cons (kv 0) ka_nil)) ke_int) (kw_and1 (kt_cmp op_eq (ke_op op_mod (ke_ix ix_list (kv 0) ke_int) ke_int) ke_int)))) (kss_one (ks_ret (ke_op op_mod (ke_op op_mod (ke_op op_shr (kv 3) (ke_op op_add (ke_op op_mulB ke_int (ke_op op_fdiv (kv 1) (ke_callB call_len_seq T.n_len PyProof.Rows.Boot.«len» (ka_cons (kv 0) ka_nil)))) ke_int)) ke_int) (kv 2)))) (kss_nil))
      (kss_cons (ks_set (i:=4) sc_draw.nd (ke_op op_add (ke_op op_add (ke_op op_mod (kv 3) ke_int) (ke_op op_mulB (ke_op op_mulB ke_int (kv 1)) (kv 1))) ke_int))
      (kss_one (ks_ret (ke_op op_mod (ke_op op_mod (ke_op op_mulB (ke_op op_mod (ke_op op_mulB (kv 4) ke_int) ke_int) ke_int) ke_int) (kv 2))))))
theorem sc_size : FnScope ["_law_script", "_law_letters", "_law_hands"] ["_law_script"] (defScope s_size) := ⟨rfl, rfl, rfl, by decide +kernel, rfl, by decide +kernel, by decide +kernel⟩
def rd_size (K:PySem.W.Frag) (a:Ad):TS:=
    tSeq (tAsg (tOp (rIxL K) (tLst (tCons (tC (.int 2)) (tCons (tC (.int 3)) (tCons (tC (.int 4)) (tCons (tC (.int 5)) (tCons (tC (.int 10)) (tCons (tC (.int 26)) tNil))))))) (tCall (spDraw K) [] E0 (tCons (tVar 0) (tCons (tC (.int 0)) (tCons (tC (.int 6)) tNil))))) (gName 1))
      (tSeq (tAsg (tOp rAddI (tC (.int 1)) (tCall (spDraw K) [] E0 (tCons (tVar 0) (tCons (tC (.int 1)) (tCons (tCB rMin2 (tCons (tC (.int 4)) (tCons (tOp rSubI (tVar 1) (tC (.int 1))) tNil))) tNil))))) (gName 2))
      (tRet (tTup (tCons (tVar 1) (tCons (tIf (tTest (tOp rEq (tCall (spDraw K) [] E0 (tCons (tVar 0) (tCons (tC (.int 2)) (tCons (tC (.int 8)) tNil)))) (tC (.int 0)))) (tOp rSubI (tVar 1) (tC (.int 1))) (tVar 2)) tNil)))))
theorem pr_size (T : Tx K mg a) (G_draw : FnOk P w K mg base CX0 1 a.f_draw a.fd_draw ["_law_script", "_law_k", "_law_many"] (spDraw K)) (hr : Room 1 (A.deeper (envOfC "_law_size" (defScope s_size) s.heap.objs.size f cdv))) :
    QSs (cxOf CX0 P w K mg base ["_law_script", "_law_letters", "_law_hands"] "_law_size" (defScope s_size) f cdv A outer s H E).nox (defBody s_size) (rd_size K a) := by
  exact kss_cons (ks_set (i:=1) sc_size.nd (ke_ix ix_list (ke_lst (ka_cons ke_int (ka_cons ke_int (ka_cons ke_int (ka_cons ke_int (ka_cons ke_int (ka_cons ke_int ka_nil))))))) (ke_call G_draw (by exact hr.mono (by decide)) T.g_draw T.F_draw.kp T.b_draw pass0 (ka_cons (kv 0) (ka_cons ke_int (ka_cons ke_int ka_nil))))))
      (kss_cons (ks_set (i:=2) sc_size.nd (ke_op op_add ke_int (ke_call G_draw (by exact hr.mono (by decide)) T.g_draw T.F_draw.kp T.b_draw pass0 (ka_cons (kv 0) (ka_cons ke_int (ka_cons (ke_callB (call_min2 (by kernel_rfl)) T.n_min PyProof.Rows.Boot.«min» (ka_cons ke_int (ka_cons (ke_op op_sub (kv 1) ke_int) ka_nil))) ka_nil))))))
      (kss_one (ks_ret (ke_tup (ka_cons (kv 1) (ka_cons (ke_ifExp (kt_cmp op_eq (ke_call G_draw (by exact hr.mono (by decide)) T.g_draw T.F_draw.kp T.b_draw pass0 (ka_cons (kv 0) (ka_cons ke_int (ka_cons ke_int ka_nil)))) ke_int) (ke_op op_sub (kv 1) ke_int) (kv 2)) ka_nil))))))
theorem sc_whole : FnScope ["_law_letters", "_law_mark_here", "_law_long", "_law_whole_here", "_law_k"] ["_law_letters", "_law_mark_here", "_law_long"] (defScope s_whole) := ⟨rfl, rfl, rfl, by decide +kernel, rfl, by decide +kernel, by decide +kernel⟩
def rd_whole (K:PySem.W.Frag) (a:Ad):TS:=
    rdLWhole2 K
theorem pr_whole (T:Tx K mg a) (hr:Room 0 (A.deeper (envOfC "_law_whole" (defScope s_whole) s.heap.objs.size f cdv))) :
    QSs (cxOf CX0 P w K mg base ["_law_letters", "_law_mark_here", "_law_long", "_law_whole_here", "_law_k"] "_law_whole" (defScope s_whole) f cdv A outer s H E).nox (defBody s_whole) (rd_whole K a) := by
  delta rd_whole rdLWhole2
  exact kss_cons (ks_set (i:=3) sc_whole.nd ke_int)
      (kss_cons (ks_for (ki_range1 T.n_range (ka_cons (kv 2) ka_nil)) (kg_name (i:=4) sc_whole.nd) (kss_cons (ks_set (i:=3) sc_whole.nd (ke_op op_mulB (kv 3) (kv 0)))
      (kss_one (ks_if (kt_cmp op_lt (kv 4) (ke_callB call_lenS T.n_len PyProof.Rows.Boot.«len» (ka_cons (kv 1) ka_nil))) (kss_one (ks_set (i:=3) sc_whole.nd (ke_op op_add (kv 3) (ke_bm PySem.F.plainAttrs_str PySem.F.slot_str_index PySem.F.type_str_index mt_index (ke_txt small_eq) (ka_cons (ke_ix ix_strL (kv 1) (kv 4)) ka_nil))))) (kss_nil)))))
      (kss_one (ks_ret (kv 3))))
theorem sc_mark : FnScope ["_law_letters", "_law_number", "_law_long", "_law_text", "_law_k"] ["_law_letters", "_law_number", "_law_long"] (defScope s_mark) := ⟨rfl, rfl, rfl, by decide +kernel, rfl, by decide +kernel, by decide +kernel⟩
def rd_mark (K:PySem.W.Frag) (a:Ad):TS:=
    rdText K
theorem pr_mark (T:Tx K mg a) (hr:Room 0 (A.deeper (envOfC "_law_mark" (defScope s_mark) s.heap.objs.size f cdv))) :
    QSs (cxOf CX0 P w K mg base ["_law_letters", "_law_number", "_law_long", "_law_text", "_law_k"] "_law_mark" (defScope s_mark) f cdv A outer s H E).nox (defBody s_mark) (rd_mark K a) := by
  delta rd_mark rdText
  exact kss_cons (ks_set (i:=3) sc_mark.nd (ke_txt (by kernel_rfl)))
      (kss_cons (ks_for (ki_range1 T.n_range (ka_cons (kv 2) ka_nil)) (kg_name (i:=4) sc_mark.nd) (kss_cons (ks_set (i:=3) sc_mark.nd (ke_op op_addS (ke_ix ix_strL (ke_txt small_eq) (ke_op op_mod (kv 1) (kv 0))) (kv 3)))
      (kss_one (ks_set (i:=1) sc_mark.nd (ke_op op_fdiv (kv 1) (kv 0))))))
      (kss_one (ks_ret (ke_bm PySem.F.plainAttrs_str PySem.F.slot_str_rstrip PySem.F.type_str_rstrip mt_rstrip (kv 3) (ka_cons (ke_txt (by kernel_rfl)) ka_nil)))))
theorem sc_some : FnScope ["_law_letters", "_law_hands", "_law_hand", "_law_low", "_law_high", "_law_long", "_law_most", "_law_k", "_law_least", "_law_some_here", "_law_number"] ["_law_letters", "_law_hands", "_law_hand", "_law_low", "_law_high", "_law_long"] (defScope s_some) := ⟨rfl, rfl, rfl, by decide +kernel, rfl, by decide +kernel, by decide +kernel⟩
def rd_some (K:PySem.W.Frag) (a:Ad):TS:=
    rdLSome K
theorem pr_some (T : Tx K mg a) (G_whole : FnOk P w K mg base CX0 1 a.f_whole a.fd_whole ["_law_letters", "_law_mark_here", "_law_long"] spLWhole) (hr : Room 1 (A.deeper (envOfC "_law_some" (defScope s_some) s.heap.objs.size f cdv))) :
    QSs (cxOf CX0 P w K mg base ["_law_letters", "_law_hands", "_law_hand", "_law_low", "_law_high", "_law_long", "_law_most", "_law_k", "_law_least", "_law_some_here", "_law_number"] "_law_some" (defScope s_some) f cdv A outer s H E).nox (defBody s_some) (rd_some K a) := by
  delta rd_some rdLSome
  exact kss_cons (ks_set (i:=6) sc_some.nd ke_int)
      (kss_cons (ks_for (ki_range1 T.n_range (ka_cons (kv 5) ka_nil)) (kg_name (i:=7) sc_some.nd) (kss_one (ks_set (i:=6) sc_some.nd (ke_op op_mulB (kv 6) (kv 0)))))
      (kss_cons (ks_set (i:=6) sc_some.nd (ke_op op_sub (kv 6) ke_int))
      (kss_cons (ks_set (i:=8) sc_some.nd ke_int)
      (kss_cons (ks_if (kt_notN (kv 3)) (kss_one (ks_set (i:=8) sc_some.nd (ke_op op_add (ke_call G_whole (by exact hr.mono (by decide)) T.g_whole T.F_whole.kp T.b_whole pass0 (ka_cons (kv 0) (ka_cons (kv 3) (ka_cons (kv 5) ka_nil)))) ke_int))) (kss_nil))
      (kss_cons (ks_if (kt_notN (kv 4)) (kss_one (ks_set (i:=6) sc_some.nd (ke_op op_sub (ke_call G_whole (by exact hr.mono (by decide)) T.g_whole T.F_whole.kp T.b_whole pass0 (ka_cons (kv 0) (ka_cons (kv 4) (ka_cons (kv 5) ka_nil)))) (ke_callTy call_int1 T.n_int PyProof.Rows.Boot.«int» (ka_cons (ke_cmp op_le (ke_callB call_lenS T.n_len PyProof.Rows.Boot.«len» (ka_cons (kv 4) ka_nil)) (kv 5)) ka_nil))))) (kss_nil))
      (kss_cons (ks_set (i:=9) sc_some.nd (ke_lst ka_nil))
      (kss_cons (ks_for (ki_range2B T.n_range (ka_cons (kv 8) (ka_cons (ke_op op_add (kv 6) ke_int) ka_nil))) (kg_name (i:=10) sc_some.nd) (kss_one (ks_if (kt_w (kw_and (kt_cmp op_gt (ke_op op_mod (kv 10) (kv 0)) ke_int) (kw_and1 (kt_cmp op_eq (ke_op op_mod (ke_op op_sub (ke_op op_mod (kv 10) (kv 0)) ke_int) (kv 1)) (kv 2))))) (kss_one (ks_expr (ke_bm PySem.F.plainAttrs_list PySem.F.slot_list_append PySem.F.type_list_append mt_append (kv 9) (ka_cons (kv 10) ka_nil)))) (kss_nil))))
      (kss_one (ks_ret (kv 9))))))))))
theorem sc_stem : FnScope ["_law_letters", "_law_low", "_law_high", "_law_some_here", "_law_long", "_law_number", "_law_text"] ["_law_letters", "_law_low", "_law_high"] (defScope s_stem) := ⟨rfl, rfl, rfl, by decide +kernel, rfl, by decide +kernel, by decide +kernel⟩
def rd_stem (K:PySem.W.Frag) (a:Ad):TS:=
    rdLStem K
theorem pr_stem (T : Tx K mg a) (G_some : FnOk P w K mg base CX0 2 a.f_some a.fd_some ["_law_letters", "_law_hands", "_law_hand", "_law_low", "_law_high", "_law_long"] spLSome) (G_mark : FnOk P w K mg base CX0 1 a.f_mark a.fd_mark ["_law_letters", "_law_number", "_law_long"] spText) (hr : Room 2 (A.deeper (envOfC "_law_stem" (defScope s_stem) s.heap.objs.size f cdv))) :
    QSs (cxOf CX0 P w K mg base ["_law_letters", "_law_low", "_law_high", "_law_some_here", "_law_long", "_law_number", "_law_text"] "_law_stem" (defScope s_stem) f cdv A outer s H E).nox (defBody s_stem) (rd_stem K a) := by
  delta rd_stem rdLStem
  exact kss_cons (ks_set (i:=3) sc_stem.nd (ke_lst ka_nil))
      (kss_cons (ks_set (i:=4) sc_stem.nd ke_int)
      (kss_cons (ks_while (kt_cmp op_eq (ke_callB call_len_seq T.n_len PyProof.Rows.Boot.«len» (ka_cons (kv 3) ka_nil)) ke_int) (kss_cons (ks_set (i:=4) sc_stem.nd (ke_op op_add (kv 4) ke_int))
      (kss_one (ks_for (ki_list (ke_call G_some (by exact hr.mono (by decide)) T.g_some T.F_some.kp T.b_some pass0 (ka_cons (kv 0) (ka_cons ke_int (ka_cons ke_int (ka_cons (kv 1) (ka_cons (kv 2) (ka_cons (kv 4) ka_nil)))))))) (kg_name (i:=5) sc_stem.nd) (kss_cons (ks_set (i:=6) sc_stem.nd (ke_call G_mark (by exact hr.mono (by decide)) T.g_mark T.F_mark.kp T.b_mark pass0 (ka_cons (kv 0) (ka_cons (kv 5) (ka_cons (kv 4) ka_nil)))))
      (kss_one (ks_if (kt_w (kw_or (kt_isN (kv 2)) (kw_or1 (kt_cmp op_ne (ke_slice sl_str (kv 2) ko_none (ko_some (kv 4))) (kv 6))))) (kss_one (ks_expr (ke_bm PySem.F.plainAttrs_list PySem.F.slot_list_append PySem.F.type_list_append mt_append (kv 3) (ka_cons (kv 6) ka_nil)))) (kss_nil))))))))
      (kss_one (ks_ret (ke_ix ix_list (kv 3) (ke_op op_fdiv (ke_op op_sub (ke_callB call_len_seq T.n_len PyProof.Rows.Boot.«len» (ka_cons (kv 3) ka_nil)) ke_int) ke_int))))))
theorem sc_carried : FnScope ["_law_letters", "_law_rows_here", "_law_mark_here", "_law_low", "_law_high", "_law_old", "_law_fresh"] ["_law_letters", "_law_rows_here", "_law_mark_here"] (defScope s_carried) := ⟨rfl, rfl, rfl, by decide +kernel, rfl, by decide +kernel, by decide +kernel⟩
def rd_carried (K:PySem.W.Frag) (a:Ad):TS:=
    rdLCar K
theorem pr_carried (T : Tx K mg a) (G_stem : FnOk P w K mg base CX0 3 a.f_stem a.fd_stem ["_law_letters", "_law_low", "_law_high"] spLStem) (hr : Room 3 (A.deeper (envOfC "_law_carried" (defScope s_carried) s.heap.objs.size f cdv))) :
    QSs (cxOf CX0 P w K mg base ["_law_letters", "_law_rows_here", "_law_mark_here", "_law_low", "_law_high", "_law_old", "_law_fresh"] "_law_carried" (defScope s_carried) f cdv A outer s H E).nox (defBody s_carried) (rd_carried K a) := by
  delta rd_carried rdLCar
  exact kss_cons (ks_set (i:=3) sc_carried.nd ke_non)
      (kss_cons (ks_set (i:=4) sc_carried.nd ke_non)
      (kss_cons (ks_for (ki_list (kv 1)) (kg_tup (kgs_cons (kg_name (i:=5) sc_carried.nd) (kgs_cons (kg_name (i:=6) sc_carried.nd) kgs_nil))) (kss_cons (ks_if (kt_cmp op_eq (kv 5) (kv 2)) (kss_one (ks_ret (kv 6))) (kss_nil))
      (kss_cons (ks_if (kt_w (kw_and (kt_notN (kv 6)) (kw_and1 (kt_cmp op_ltS (kv 5) (kv 2))))) (kss_one (ks_set (i:=3) sc_carried.nd (kv 6))) (kss_nil))
      (kss_one (ks_if (kt_w (kw_and (kt_notN (kv 6)) (kw_and (kt_cmp op_gtS (kv 5) (kv 2)) (kw_and1 (kt_isN (kv 4)))))) (kss_one (ks_set (i:=4) sc_carried.nd (kv 6))) (kss_nil))))))
      (kss_one (ks_ret (ke_op op_addS (ke_call G_stem (by exact hr.mono (by decide)) T.g_stem T.F_stem.kp T.b_stem pass0 (ka_cons (kv 0) (ka_cons (kv 3) (ka_cons (kv 4) ka_nil)))) (kv 2))))))
theorem sc_marks : FnScope ["_law_script", "_law_k", "_law_letters", "_law_many", "_law_signs", "_law_marks_here", "_law_n", "_law_size_here", "_law_text"] ["_law_script", "_law_k", "_law_letters", "_law_many"] (defScope s_marks) := ⟨rfl, rfl, rfl, by decide +kernel, rfl, by decide +kernel, by decide +kernel⟩
def rd_marks (K:PySem.W.Frag) (a:Ad):TS:=
    rdTMarks K
theorem pr_marks (T : Tx K mg a) (G_draw : FnOk P w K mg base CX0 1 a.f_draw a.fd_draw ["_law_script", "_law_k", "_law_many"] (spDraw K)) (hr : Room 1 (A.deeper (envOfC "_law_marks" (defScope s_marks) s.heap.objs.size f cdv))) :
    QSs (cxOf CX0 P w K mg base ["_law_script", "_law_k", "_law_letters", "_law_many", "_law_signs", "_law_marks_here", "_law_n", "_law_size_here", "_law_text"] "_law_marks" (defScope s_marks) f cdv A outer s H E).nox (defBody s_marks) (rd_marks K a) := by
  delta rd_marks rdTMarks
  exact kss_cons (ks_setc (i:=4) sc_marks.nd (ke_slice sl_str (ke_txt small_eq) ko_none (ko_some (kvc 2))))
      (kss_cons (ks_set (i:=5) sc_marks.nd (ke_lst ka_nil))
      (kss_cons (ks_for (ki_range1 T.n_range (ka_cons (kv 3) ka_nil)) (kg_namec (i:=6) sc_marks.nd) (kss_cons (ks_set (i:=7) sc_marks.nd (ke_call G_draw (by exact hr.mono (by decide)) T.g_draw T.F_draw.kp T.b_draw pass0 (ka_cons (kvc 0) (ka_cons (ke_op op_add (kvc 1) (ke_op op_mulB ke_int (kvc 6))) (ka_cons ke_int ka_nil)))))
      (kss_cons (ks_if (kt_cmp op_eq (ke_call G_draw (by exact hr.mono (by decide)) T.g_draw T.F_draw.kp T.b_draw pass0 (ka_cons (kvc 0) (ka_cons (ke_op op_add (ke_op op_add (kvc 1) (ke_op op_mulB ke_int (kvc 6))) ke_int) (ka_cons ke_int ka_nil)))) ke_int) (kss_one (ks_set (i:=7) sc_marks.nd (ke_call G_draw (by exact hr.mono (by decide)) T.g_draw T.F_draw.kp T.b_draw pass0 (ka_cons (kvc 0) (ka_cons (ke_op op_add (kvc 1) (ke_op op_mulB ke_int (kvc 6))) (ka_cons ke_int ka_nil)))))) (kss_nil))
      (kss_cons (ks_set (i := 8) sc_marks.nd (ke_bm PySem.F.plainAttrs_str PySem.F.slot_str_join PySem.F.type_str_join mt_join (ke_txt (by kernel_rfl)) (ka_cons (ke_comp [("_law_signs", 4), ("_law_script", 0), ("_law_letters", 2), ("_law_k", 1), ("_law_n", 6)] (ki_range1 T.n_range (ka_cons (kv 7) ka_nil)) (fun _ _ _ _ _ => ⟨kts_nil, ke_ix ix_strL (kvc 1) (ke_call G_draw (by exact hr.mono (by decide)) T.g_draw T.F_draw.kp T.b_draw pass0 (ka_cons (kvc 2) (ka_cons (ke_op op_add (ke_op op_add (ke_op op_add (kvc 4) (ke_op op_mulB ke_int (kvc 5))) ke_int) (kv 0)) (ka_cons (kvc 3) ka_nil))))⟩)) ka_nil)))
      (kss_cons (ks_set (i:=8) sc_marks.nd (ke_op op_addS (kv 8) (ke_ix ix_strL (kvc 4) (ke_op op_add ke_int (ke_call G_draw (by exact hr.mono (by decide)) T.g_draw T.F_draw.kp T.b_draw pass0 (ka_cons (kvc 0) (ka_cons (ke_op op_add (ke_op op_add (kvc 1) (ke_op op_mulB ke_int (kvc 6))) ke_int) (ka_cons (ke_op op_sub (kvc 2) ke_int) ka_nil))))))))
      (kss_one (ks_if (kt_cmp op_notIn_seq (kv 8) (kv 5)) (kss_one (ks_expr (ke_bm PySem.F.plainAttrs_list PySem.F.slot_list_append PySem.F.type_list_append mt_append (kv 5) (ka_cons (kv 8) ka_nil)))) (kss_nil))))))))
      (kss_one (ks_ret (ke_callB call_sortedS T.n_sorted PyProof.Rows.Boot.«sorted» (ka_cons (kv 5) ka_nil))))))
theorem sc_rows : FnScope ["_law_script", "_law_k", "_law_letters", "_law_olds", "_law_news", "_law_rows_here", "_law_old", "_law_fresh"] ["_law_script", "_law_k", "_law_letters"] (defScope s_rows) := ⟨rfl, rfl, rfl, by decide +kernel, rfl, by decide +kernel, by decide +kernel⟩
def rd_rows (K:PySem.W.Frag) (a:Ad):TS:=
    rdTRows K
theorem pr_rows (T : Tx K mg a) (G_draw : FnOk P w K mg base CX0 1 a.f_draw a.fd_draw ["_law_script", "_law_k", "_law_many"] (spDraw K)) (G_marks : FnOk P w K mg base CX0 2 a.f_marks a.fd_marks ["_law_script", "_law_k", "_law_letters", "_law_many"] (spTMarks K)) (hr : Room 2 (A.deeper (envOfC "_law_rows" (defScope s_rows) s.heap.objs.size f cdv))) :
    QSs (cxOf CX0 P w K mg base ["_law_script", "_law_k", "_law_letters", "_law_olds", "_law_news", "_law_rows_here", "_law_old", "_law_fresh"] "_law_rows" (defScope s_rows) f cdv A outer s H E).nox (defBody s_rows) (rd_rows K a) := by
  delta rd_rows rdTRows
  exact kss_cons (ks_set (i:=3) sc_rows.nd (ke_call G_marks (by exact hr.mono (by decide)) T.g_marks T.F_marks.kp T.b_marks pass0 (ka_cons (kv 0) (ka_cons (kv 1) (ka_cons (kv 2) (ka_cons (ke_call G_draw (by exact hr.mono (by decide)) T.g_draw T.F_draw.kp T.b_draw pass0 (ka_cons (kv 0) (ka_cons (ke_op op_add (kv 1) ke_int) (ka_cons ke_int ka_nil)))) ka_nil))))))
      (kss_cons (ks_set (i:=4) sc_rows.nd (ke_call G_marks (by exact hr.mono (by decide)) T.g_marks T.F_marks.kp T.b_marks pass0 (ka_cons (kv 0) (ka_cons (ke_op op_add (kv 1) ke_int) (ka_cons (kv 2) (ka_cons (ke_callB call_len_seq T.n_len PyProof.Rows.Boot.«len» (ka_cons (kv 3) ka_nil)) ka_nil))))))
      (kss_cons (ks_set (i:=5) sc_rows.nd (ke_lst ka_nil))
      (kss_cons (ks_for (ki_list (kv 3)) (kg_name (i:=6) sc_rows.nd) (kss_cons (ks_set (i:=7) sc_rows.nd ke_non)
      (kss_cons (ks_if (kt_w (kw_and (kt_cmp op_gt (ke_callB call_len_seq T.n_len PyProof.Rows.Boot.«len» (ka_cons (kv 4) ka_nil)) ke_int) (kw_and1 (kt_cmp op_gt (ke_call G_draw (by exact hr.mono (by decide)) T.g_draw T.F_draw.kp T.b_draw pass0 (ka_cons (kv 0) (ka_cons (ke_op op_add (ke_op op_add (kv 1) ke_int) (ke_callB call_len_seq T.n_len PyProof.Rows.Boot.«len» (ka_cons (kv 5) ka_nil))) (ka_cons ke_int ka_nil)))) ke_int)))) (kss_one (ks_set (i:=7) sc_rows.nd (ke_bm PySem.F.plainAttrs_list PySem.F.slot_list_pop PySem.F.type_list_pop mt_popAt (kv 4) (ka_cons ke_int ka_nil)))) (kss_nil))
      (kss_one (ks_expr (ke_bm PySem.F.plainAttrs_list PySem.F.slot_list_append PySem.F.type_list_append mt_append (kv 5) (ka_cons (ke_tup (ka_cons (kv 6) (ka_cons (kv 7) ka_nil))) ka_nil)))))))
      (kss_one (ks_ret (kv 5))))))
theorem sc_thing : FnScope ["_law_script", "_law_k", "_law_some_here"] ["_law_script", "_law_k"] (defScope s_thing) := ⟨rfl, rfl, rfl, by decide +kernel, rfl, by decide +kernel, by decide +kernel⟩
def rd_thing (K:PySem.W.Frag) (a:Ad):TS:=
    rdHThing K
theorem pr_thing (T : Tx K mg a) (G_draw : FnOk P w K mg base CX0 1 a.f_draw a.fd_draw ["_law_script", "_law_k", "_law_many"] (spDraw K)) (hr : Room 1 (A.deeper (envOfC "_law_thing" (defScope s_thing) s.heap.objs.size f cdv))) :
    QSs (cxOf CX0 P w K mg base ["_law_script", "_law_k", "_law_some_here"] "_law_thing" (defScope s_thing) f cdv A outer s H E).nox (defBody s_thing) (rd_thing K a) := by
  delta rd_thing rdHThing
  exact kss_cons (ks_set (i:=2) sc_thing.nd (ke_lst (ka_cons (ke_txt (by kernel_rfl)) (ka_cons (ke_txt (by kernel_rfl)) (ka_cons (ke_txt (by kernel_rfl)) (ka_cons (ke_txt (by kernel_rfl)) (ka_cons (ke_txt (by kernel_rfl)) (ka_cons (ke_txt (by kernel_rfl)) (ka_cons (ke_txt (by kernel_rfl)) (ka_cons (ke_txt (by kernel_rfl)) ka_nil))))))))))
      (kss_one (ks_ret (ke_ix ix_list (kv 2) (ke_call G_draw (by exact hr.mono (by decide)) T.g_draw T.F_draw.kp T.b_draw pass0 (ka_cons (kv 0) (ka_cons (kv 1) (ka_cons ke_int ka_nil)))))))
theorem sc_made : FnScope ["_law_script", "_law_k", "_law_size_here", "_law_renewals", "_law_more", "_law_marks_here", "_law_rows_here", "_law_old", "_law_fresh", "_law_some_here", "_law_mark_here", "_law_things", "_law_taken"] ["_law_script", "_law_k", "_law_size_here", "_law_renewals", "_law_more"] (defScope s_made) := ⟨rfl, rfl, rfl, by decide +kernel, rfl, by decide +kernel, by decide +kernel⟩
def rd_made (K:PySem.W.Frag) (a:Ad):TS:=
    rdRMade K
theorem pr_made (T : Tx K mg a) (G_draw : FnOk P w K mg base CX0 1 a.f_draw a.fd_draw ["_law_script", "_law_k", "_law_many"] (spDraw K)) (G_marks : FnOk P w K mg base CX0 2 a.f_marks a.fd_marks ["_law_script", "_law_k", "_law_letters", "_law_many"] (spTMarks K)) (G_thing : FnOk P w K mg base CX0 2 a.f_thing a.fd_thing ["_law_script", "_law_k"] (spHThing K)) (hr : Room 2 (A.deeper (envOfC "_law_made" (defScope s_made) s.heap.objs.size f cdv))) :
    QSs (cxOf CX0 P w K mg base ["_law_script", "_law_k", "_law_size_here", "_law_renewals", "_law_more", "_law_marks_here", "_law_rows_here", "_law_old", "_law_fresh", "_law_some_here", "_law_mark_here", "_law_things", "_law_taken"] "_law_made" (defScope s_made) f cdv A outer s H E).nox (defBody s_made) (rd_made K a) := by
  delta rd_made rdRMade
  exact kss_cons (ks_set (i:=5) sc_made.nd (ke_op op_cat (ke_call G_marks (by exact hr.mono (by decide)) T.g_marks T.F_marks.kp T.b_marks pass0 (ka_cons (kv 0) (ka_cons (kv 1) (ka_cons (ke_ix ix_tup (kv 2) ke_int) (ka_cons (ke_call G_draw (by exact hr.mono (by decide)) T.g_draw T.F_draw.kp T.b_draw pass0 (ka_cons (kv 0) (ka_cons (ke_op op_add (kv 1) ke_int) (ka_cons ke_int ka_nil)))) ka_nil))))) (kv 4)))
      (kss_cons (ks_for (ki_list (kv 3)) (kg_name (i:=6) sc_made.nd) (kss_one (ks_for (ki_list (kv 6)) (kg_tup (kgs_cons (kg_name (i:=7) sc_made.nd) (kgs_cons (kg_name (i:=8) sc_made.nd) kgs_nil))) (kss_one (ks_set (i:=5) sc_made.nd (ke_op op_cat (kv 5) (ke_ifExp (kt_isN (kv 8)) (ke_lst (ka_cons (kv 7) ka_nil)) (ke_lst (ka_cons (kv 7) (ka_cons (kv 8) ka_nil))))))))))
      (kss_cons (ks_set (i:=9) sc_made.nd (ke_lst ka_nil))
      (kss_cons (ks_for (ki_list (ke_sortSet (by kernel_rfl) T.n_sorted T.n_set (ka_cons (kv 5) ka_nil) PyProof.Rows.Boot.«sorted» PyProof.Rows.Boot.«set»)) (kg_name (i:=10) sc_made.nd) (kss_one (ks_if (kt_w (kw_and (kt_cmp op_gt (ke_call G_draw (by exact hr.mono (by decide)) T.g_draw T.F_draw.kp T.b_draw pass0 (ka_cons (kv 0) (ka_cons (ke_op op_add (ke_op op_add (ke_op op_add (kv 1) ke_int) (ke_callB call_lenS T.n_len PyProof.Rows.Boot.«len» (ka_cons (kv 10) ka_nil))) (ke_callB call_len_seq T.n_len PyProof.Rows.Boot.«len» (ka_cons (kv 9) ka_nil))) (ka_cons ke_int ka_nil)))) ke_int) (kw_and1 (kt_cmp op_lt (ke_callB call_len_seq T.n_len PyProof.Rows.Boot.«len» (ka_cons (kv 9) ka_nil)) ke_int)))) (kss_one (ks_expr (ke_bm PySem.F.plainAttrs_list PySem.F.slot_list_append PySem.F.type_list_append mt_append (kv 9) (ka_cons (kv 10) ka_nil)))) (kss_nil))))
      (kss_cons (ks_set (i:=11) sc_made.nd (ke_lst ka_nil))
      (kss_cons (ks_set (i:=12) sc_made.nd (ke_lst ka_nil))
      (kss_cons (ks_for (ki_list (kv 9)) (kg_name (i:=10) sc_made.nd) (kss_cons (ks_expr (ke_bm PySem.F.plainAttrs_list PySem.F.slot_list_append PySem.F.type_list_append mt_append (kv 11) (ka_cons (ke_tup (ka_cons (kv 10) (ka_cons (ke_call G_thing (by exact hr.mono (by decide)) T.g_thing T.F_thing.kp T.b_thing pass0 (ka_cons (kv 0) (ka_cons (ke_op op_add (ke_op op_add (kv 1) ke_int) (ke_callB call_len_seq T.n_len PyProof.Rows.Boot.«len» (ka_cons (kv 11) ka_nil))) ka_nil))) ka_nil))) ka_nil)))
      (kss_one (ks_if (kt_cmp op_eq (ke_call G_draw (by exact hr.mono (by decide)) T.g_draw T.F_draw.kp T.b_draw pass0 (ka_cons (kv 0) (ka_cons (ke_op op_add (ke_op op_add (kv 1) ke_int) (ke_callB call_len_seq T.n_len PyProof.Rows.Boot.«len» (ka_cons (kv 11) ka_nil))) (ka_cons ke_int ka_nil)))) ke_int) (kss_one (ks_expr (ke_bm PySem.F.plainAttrs_list PySem.F.slot_list_append PySem.F.type_list_append mt_append (kv 12) (ka_cons (kv 10) ka_nil)))) (kss_nil)))))
      (kss_one (ks_ret (ke_op op_catT (kv 2) (ke_tup (ka_cons (ke_comp [] (ki_list (kv 3)) (fun _ _ _ _ _=>⟨kts_nil,ke_callTy call_list_of T.n_list PyProof.Rows.Boot.«list» (ka_cons (kv 0) ka_nil)⟩)) (ka_cons (kv 11) (ka_cons (kv 12) ka_nil)))))))))))))
theorem sc_carry : FnScope ["_law_state", "_law_renewals", "_law_things", "_law_taken", "_law_rows_here"] ["_law_state", "_law_renewals"] (defScope s_carry) := ⟨rfl, rfl, rfl, by decide +kernel, rfl, by decide +kernel, by decide +kernel⟩
def rd_carry (K:PySem.W.Frag) (a:Ad):TS:=
    rdRCarry K
theorem pr_carry (T : Tx K mg a) (G_carried : FnOk P w K mg base CX0 4 a.f_carried a.fd_carried ["_law_letters", "_law_rows_here", "_law_mark_here"] (spLCar K)) (hr : Room 4 (A.deeper (envOfC "_law_carry" (defScope s_carry) s.heap.objs.size f cdv))) :
    QSs (cxOf CX0 P w K mg base ["_law_state", "_law_renewals", "_law_things", "_law_taken", "_law_rows_here"] "_law_carry" (defScope s_carry) f cdv A outer s H E).nox (defBody s_carry) (rd_carry K a) := by
  delta rd_carry rdRCarry
  exact kss_cons (ks_set (i:=2) sc_carry.nd (ke_callTy call_list_of T.n_list PyProof.Rows.Boot.«list» (ka_cons (ke_ix ix_tup (kvc 0) ke_int) ka_nil)))
      (kss_cons (ks_set (i:=3) sc_carry.nd (ke_callTy call_list_of T.n_list PyProof.Rows.Boot.«list» (ka_cons (ke_ix ix_tup (kvc 0) ke_int) ka_nil)))
      (kss_cons (ks_for (ki_list (ke_slice sl_list (kv 1) (ko_some (ke_callB call_len_seq T.n_len PyProof.Rows.Boot.«len» (ka_cons (ke_ix ix_tup (kvc 0) ke_int) ka_nil))) ko_none)) (kg_namec (i := 4) sc_carry.nd) (kss_cons (ks_comp2 (i := 2) [("_law_rows_here", 4), ("_law_state", 0)] sc_carry.nd (ki_list (kv 2)) (fun _ _ _ _ _ => ⟨kts_nil, ke_tup (ka_cons (ke_call G_carried (by exact hr.mono (by decide)) T.g_carried T.F_carried.kp T.b_carried pass0 (ka_cons (ke_ix ix_tup (kvc 3) ke_int) (ka_cons (kvc 2) (ka_cons (kv 0) ka_nil)))) (ka_cons (kv 1) ka_nil))⟩))
      (kss_cons (ks_comp (i:=2) [] sc_carry.nd (ki_list (kv 2)) (fun _ _ _ _ _=>⟨kts_one (kt_notN (ke_ix ix_tup (kv 0) ke_int)),kv 0⟩))
      (kss_cons (ks_comp (i := 3) [("_law_rows_here", 4), ("_law_state", 0)] sc_carry.nd (ki_list (kv 3)) (fun _ _ _ _ _ => ⟨kts_nil, ke_call G_carried (by exact hr.mono (by decide)) T.g_carried T.F_carried.kp T.b_carried pass0 (ka_cons (ke_ix ix_tup (kvc 2) ke_int) (ka_cons (kvc 1) (ka_cons (kv 0) ka_nil)))⟩))
      (kss_one (ks_comp (i:=3) [] sc_carry.nd (ki_list (kv 3)) (fun _ _ _ _ _=>⟨kts_one (kt_notN (kv 0)),kv 0⟩)))))))
      (kss_one (ks_ret (ke_tup (ka_cons (kv 2) (ka_cons (kv 3) ka_nil)))))))
theorem sc_l_laid : FnScope ["_law_one", "_law_other", "_law_renewals", "_law_things", "_law_taken", "_law_state", "_law_some_here", "_law_gone", "_law_mark_here", "_law_thing_here", "_law_rows_here"] ["_law_one", "_law_other", "_law_renewals"] (defScope s_l_laid) := ⟨rfl, rfl, rfl, by decide +kernel, rfl, by decide +kernel, by decide +kernel⟩
def rd_l_laid (K:PySem.W.Frag) (a:Ad):TS:=
    tSeq (tAsg tDNewK (gName 3))
      (tSeq (tAsg (tLst tNil) (gName 4))
      (tSeq (tFor (iList K (tLst (tCons (tVar 0) (tCons (tVar 1) tNil)))) (gName 5) (tSeq (tAsg (tCall (spRCarry K) [] E0 (tCons (tVar 5) (tCons (tVar 2) tNil))) (gTup K 2 (gCons (gName 6) (gCons (gName 7) gNil))))
      (tSeq (tFor (iList K (tVar 6)) (gTup K 2 (gCons (gName 8) (gCons (gName 9) gNil))) (sDPut (tVar 3) (tVar 8) (tCB rMin2S (tCons (tVar 9) (tCons (tDGet2 (tVar 3) (tVar 8) (tVar 9)) tNil)))))
      (tAsg (tOp rCat (tVar 4) (tVar 7)) (gName 4)))))
      (tSeq (tCompSet 10 (iList K (tCB rSortedD (tCons (tVar 3) tNil))) [3] tYes (tTup (tCons (tVar 0) (tCons (tDGet (tVar 1) (tVar 0)) tNil))))
      (tRet (tOp (rCatT K) (tSl (rSlT K) (tVar 0) tNoPart (tPart (tC (.int 2)))) (tTup (tCons (tComp (iList K (tVar 2)) [] tYes (tCB (rListOf K) (tCons (tVar 0) tNil))) (tCons (tVar 10) (tCons (tCB (rSortSet K) (tCons (tVar 4) tNil)) tNil)))))))))
theorem pr_l_laid (T : Tx K mg a) (G_carry : FnOk P w K mg base CX0 5 a.f_carry a.fd_carry ["_law_state", "_law_renewals"] (spRCarry K)) (hr : Room 5 (A.deeper (envOfC "_law_laid" (defScope s_l_laid) s.heap.objs.size f cdv))) :
    QSs (cxOf CX0 P w K mg base ["_law_one", "_law_other", "_law_renewals", "_law_things", "_law_taken", "_law_state", "_law_some_here", "_law_gone", "_law_mark_here", "_law_thing_here", "_law_rows_here"] "_law_laid" (defScope s_l_laid) f cdv A outer s H E).nox (defBody s_l_laid) (rd_l_laid K a) := by
  have hu:=Room.units hr
  exact kss_cons (ks_setc (i:=3) sc_l_laid.nd ke_dnewK)
      (kss_cons (ks_set (i:=4) sc_l_laid.nd (ke_lst ka_nil))
      (kss_cons (ks_for (ki_list (ke_lst (ka_cons (kv 0) (ka_cons (kv 1) ka_nil)))) (kg_name (i:=5) sc_l_laid.nd) (kss_cons (ks_asg (ke_call G_carry (by exact hr.mono (by decide)) T.g_carry T.F_carry.kp T.b_carry pass0 (ka_cons (kv 5) (ka_cons (kv 2) ka_nil))) (kg_tup (kgs_cons (kg_name (i:=6) sc_l_laid.nd) (kgs_cons (kg_name (i:=7) sc_l_laid.nd) kgs_nil))))
      (kss_cons (ks_for (ki_list (kv 6)) (kg_tup (kgs_cons (kg_name (i:=8) sc_l_laid.nd) (kgs_cons (kg_name (i:=9) sc_l_laid.nd) kgs_nil))) (kss_one (ks_dput hu (kvc 3) (kv 8) (ke_callB (call_min2S (by kernel_rfl)) T.n_min PyProof.Rows.Boot.«min» (ka_cons (kv 9) (ka_cons (ke_dget2 hu (kvc 3) (kv 8) (kv 9)) ka_nil))))))
      (kss_one (ks_set (i:=4) sc_l_laid.nd (ke_op op_cat (kv 4) (kv 7)))))))
      (kss_cons (ks_comp (i:=10) [("_law_things",3)] sc_l_laid.nd (ki_list (ke_callB (call_sortedD (by kernel_rfl)) T.n_sorted PyProof.Rows.Boot.«sorted» (ka_cons (kvc 3) ka_nil))) (fun _ _ _ _ _=>⟨kts_nil,ke_tup (ka_cons (kv 0) (ka_cons (ke_dget hu (kvc 1) (kv 0)) ka_nil))⟩))
      (kss_one (ks_ret (ke_op op_catT (ke_slice sl_tup (kv 0) ko_none (ko_some ke_int)) (ke_tup (ka_cons (ke_comp [] (ki_list (kv 2)) (fun _ _ _ _ _=>⟨kts_nil,ke_callTy call_list_of T.n_list PyProof.Rows.Boot.«list» (ka_cons (kv 0) ka_nil)⟩)) (ka_cons (kv 10) (ka_cons (ke_sortSet (by kernel_rfl) T.n_sorted T.n_set (ka_cons (kv 4) ka_nil) PyProof.Rows.Boot.«sorted» PyProof.Rows.Boot.«set») ka_nil))))))))))
theorem sc_copy:FnScope ["_law_state"] ["_law_state"] (defScope s_copy):=⟨rfl,rfl,rfl,by decide +kernel,rfl,by decide +kernel,by decide +kernel⟩
def rd_copy (K:PySem.W.Frag) (a:Ad):TS:=
    rdRCopy K
theorem pr_copy (T:Tx K mg a) (hr:Room 0 (A.deeper (envOfC "_law_copy" (defScope s_copy) s.heap.objs.size f cdv))) :
    QSs (cxOf CX0 P w K mg base ["_law_state"] "_law_copy" (defScope s_copy) f cdv A outer s H E).nox (defBody s_copy) (rd_copy K a):=by
  delta rd_copy rdRCopy
  exact kss_one (ks_ret (ke_op op_catT (ke_slice sl_tup (kv 0) ko_none (ko_some ke_int)) (ke_tup (ka_cons (ke_comp [] (ki_list (ke_ix ix_tup (kv 0) ke_int)) (fun _ _ _ _ _=>⟨kts_nil,ke_callTy call_list_of T.n_list PyProof.Rows.Boot.«list» (ka_cons (kv 0) ka_nil)⟩)) (ka_cons (ke_callTy call_list_of T.n_list PyProof.Rows.Boot.«list» (ka_cons (ke_ix ix_tup (kv 0) ke_int) ka_nil)) (ka_cons (ke_callTy call_list_of T.n_list PyProof.Rows.Boot.«list» (ka_cons (ke_ix ix_tup (kv 0) ke_int) ka_nil)) ka_nil))))))
theorem sc_law : FnScope ["_law_script", "_law_size_here", "_law_renewals", "_law_one", "_law_fewer", "_law_other", "_law_kept", "_law_due", "_law_found"] ["_law_script"] (defScope s_law) := ⟨rfl, rfl, rfl, by decide +kernel, rfl, by decide +kernel, by decide +kernel⟩
def rd_law (K:PySem.W.Frag) (a:Ad):TS:=
    tSeq (tAsg (tCall (spSize K) [] E0 (tCons (tVar 0) tNil)) (gName 1))
      (tSeq (tCompSet 2 (iRng1 (tCons (tCall (spDraw K) [] E0 (tCons (tVar 0) (tCons (tC (.int 3)) (tCons (tC (.int 4)) tNil)))) tNil)) [0,1] tYes (tCall (spTRows K) [] E0 (tCons (tVar 1) (tCons (tOp rAddI (tC (.int 300)) (tOp rMulI (tC (.int 200)) (tVar 0))) (tCons (tOp (rIxT K) (tVar 2) (tC (.int 0))) tNil)))))
      (tSeq (tAsg (tCall (spRMade K) [] E0 (tCons (tVar 0) (tCons (tC (.int 1000)) (tCons (tVar 1) (tCons (tVar 2) (tCons (tLst tNil) tNil)))))) (gName 3))
      (tSeq (tAsg (tSl (rSlL K) (tVar 2) tNoPart (tPart (tCall (spDraw K) [] E0 (tCons (tVar 0) (tCons (tC (.int 4)) (tCons (tOp rAddI (tCB (rLenL K) (tCons (tVar 2) tNil)) (tC (.int 1))) tNil)))))) (gName 4))
      (tSeq (tAsg (tCall (spRMade K) [] E0 (tCons (tVar 0) (tCons (tC (.int 1500)) (tCons (tVar 1) (tCons (tVar 4) (tCons (tComp (iList K (tSl (rSlL K) (tOp (rIxT K) (tVar 3) (tC (.int 3))) tNoPart (tPart (tC (.int 3))))) [] tYes (tOp (rIxT K) (tVar 0) (tC (.int 0)))) tNil)))))) (gName 5))
      (tSeq (tAsg (tLst (tCons (tCall (spRCopy K) [] E0 (tCons (tVar 3) tNil)) (tCons (tCall (spRCopy K) [] E0 (tCons (tVar 5) tNil)) tNil))) (gName 6))
      (tSeq (tAsg (tCall (spRLaid K) [] E0 (tCons (tVar 3) (tCons (tVar 5) (tCons (tVar 2) tNil)))) (gName 7))
      (tSeq (tFor (iList K (tLst (tCons (tCall (spLaid K) [] E0 (tCons (tVar 3) (tCons (tVar 5) tNil))) (tCons (tCall (spLaid K) [] E0 (tCons (tVar 5) (tCons (tVar 3) tNil))) (tCons (tCall (spLaid K) [] E0 (tCons (tCall (spLaid K) [] E0 (tCons (tVar 3) (tCons (tVar 5) tNil))) (tCons (tVar 5) tNil))) tNil))))) (gName 8) (tIfS (tOr (tNot (tB (tIsi K "tuple" (tVar 8)))) (tTest (tOp (rNeD K) (tVar 8) (tVar 7)))) (tRet (tC (.bl false))) (tNext)))
      (tRet (tAndV (tOp (rEqD K) (tLst (tCons (tVar 3) (tCons (tVar 5) tNil))) (tVar 6)) (tOp (rEqD K) (tCall (spLaid K) [] E0 (tCons (tVar 5) (tCons (tVar 5) tNil))) (tVar 5)))))))))))
theorem pr_law (T : Tx K mg a) (G_size : FnOk P w K mg base CX0 2 a.f_size a.fd_size ["_law_script"] (spSize K)) (G_draw : FnOk P w K mg base CX0 1 a.f_draw a.fd_draw ["_law_script", "_law_k", "_law_many"] (spDraw K)) (G_rows : FnOk P w K mg base CX0 3 a.f_rows a.fd_rows ["_law_script", "_law_k", "_law_letters"] (spTRows K)) (G_made : FnOk P w K mg base CX0 3 a.f_made a.fd_made ["_law_script", "_law_k", "_law_size_here", "_law_renewals", "_law_more"] (spRMade K)) (G_copy : FnOk P w K mg base CX0 1 a.f_copy a.fd_copy ["_law_state"] (spRCopy K)) (G_l_laid : FnOk P w K mg base CX0 6 a.f_l_laid a.fd_l_laid ["_law_one", "_law_other", "_law_renewals"] (spRLaid K)) (G_p25 : FnOk P w K mg base CX0 10 a.f_p25 a.fd_p25 ["one", "other"] (spLaid K)) (hr : Room 10 (A.deeper (envOfC "law" (defScope s_law) s.heap.objs.size f cdv))) :
    QSs (cxOf CX0 P w K mg base ["_law_script", "_law_size_here", "_law_renewals", "_law_one", "_law_fewer", "_law_other", "_law_kept", "_law_due", "_law_found"] "law" (defScope s_law) f cdv A outer s H E).nox (defBody s_law) (rd_law K a) := by
  have hu:=Room.units hr
  exact kss_cons (ks_setc (i:=1) sc_law.nd (ke_call G_size (by exact hr.mono (by decide)) T.g_size T.F_size.kp T.b_size pass0 (ka_cons (kvc 0) ka_nil)))
      (kss_cons (ks_comp (i := 2) [("_law_script", 0), ("_law_size_here", 1)] sc_law.nd (ki_range1 T.n_range (ka_cons (ke_call G_draw (by exact hr.mono (by decide)) T.g_draw T.F_draw.kp T.b_draw pass0 (ka_cons (kvc 0) (ka_cons ke_int (ka_cons ke_int ka_nil)))) ka_nil)) (fun _ _ _ _ _ => ⟨kts_nil, ke_call G_rows (by exact hr.mono (by decide)) T.g_rows T.F_rows.kp T.b_rows pass0 (ka_cons (kvc 1) (ka_cons (ke_op op_add ke_int (ke_op op_mulB ke_int (kv 0))) (ka_cons (ke_ix ix_tup (kvc 2) ke_int) ka_nil)))⟩))
      (kss_cons (ks_set (i:=3) sc_law.nd (ke_call G_made (by exact hr.mono (by decide)) T.g_made T.F_made.kp T.b_made pass0 (ka_cons (kvc 0) (ka_cons ke_int (ka_cons (kvc 1) (ka_cons (kv 2) (ka_cons (ke_lst ka_nil) ka_nil)))))))
      (kss_cons (ks_set (i:=4) sc_law.nd (ke_slice sl_list (kv 2) ko_none (ko_some (ke_call G_draw (by exact hr.mono (by decide)) T.g_draw T.F_draw.kp T.b_draw pass0 (ka_cons (kvc 0) (ka_cons ke_int (ka_cons (ke_op op_add (ke_callB call_len_seq T.n_len PyProof.Rows.Boot.«len» (ka_cons (kv 2) ka_nil)) ke_int) ka_nil)))))))
      (kss_cons (ks_set (i:=5) sc_law.nd (ke_call G_made (by exact hr.mono (by decide)) T.g_made T.F_made.kp T.b_made pass0 (ka_cons (kvc 0) (ka_cons ke_int (ka_cons (kvc 1) (ka_cons (kv 4) (ka_cons (ke_comp [] (ki_list (ke_slice sl_list (ke_ix ix_tup (kv 3) ke_int) ko_none (ko_some ke_int))) (fun _ _ _ _ _=>⟨kts_nil,ke_ix ix_tup (kv 0) ke_int⟩)) ka_nil)))))))
      (kss_cons (ks_set (i:=6) sc_law.nd (ke_lst (ka_cons (ke_call G_copy (by exact hr.mono (by decide)) T.g_copy T.F_copy.kp T.b_copy pass0 (ka_cons (kv 3) ka_nil)) (ka_cons (ke_call G_copy (by exact hr.mono (by decide)) T.g_copy T.F_copy.kp T.b_copy pass0 (ka_cons (kv 5) ka_nil)) ka_nil))))
      (kss_cons (ks_set (i:=7) sc_law.nd (ke_call G_l_laid (by exact hr.mono (by decide)) T.g_l_laid T.F_l_laid.kp T.b_l_laid pass0 (ka_cons (kv 3) (ka_cons (kv 5) (ka_cons (kv 2) ka_nil)))))
      (kss_cons (ks_for (ki_list (ke_lst (ka_cons (ke_call G_p25 (by exact hr.mono (by decide)) T.g_p25 T.F_p25.kp T.b_p25 pass0 (ka_cons (kv 3) (ka_cons (kv 5) ka_nil))) (ka_cons (ke_call G_p25 (by exact hr.mono (by decide)) T.g_p25 T.F_p25.kp T.b_p25 pass0 (ka_cons (kv 5) (ka_cons (kv 3) ka_nil))) (ka_cons (ke_call G_p25 (by exact hr.mono (by decide)) T.g_p25 T.F_p25.kp T.b_p25 pass0 (ka_cons (ke_call G_p25 (by exact hr.mono (by decide)) T.g_p25 T.F_p25.kp T.b_p25 pass0 (ka_cons (kv 3) (ka_cons (kv 5) ka_nil))) (ka_cons (kv 5) ka_nil))) ka_nil))))) (kg_name (i:=8) sc_law.nd) (kss_one (ks_if (kt_w (kw_or (kt_not (kt_val (ke_isi T.n_isinstance PyProof.Rows.Boot.«isinstance» T.n_tuple PyProof.Rows.Boot.«tuple» (kv 8)))) (kw_or1 (kt_cmp (op_neD hu) (kv 8) (kv 7))))) (kss_one (ks_ret ke_bl)) (kss_nil))))
      (kss_one (ks_ret (ke_and (ke_cmp (op_eqD hu) (ke_lst (ka_cons (kv 3) (ka_cons (kv 5) ka_nil))) (kv 6)) (ke_one (ke_cmp (op_eqD hu) (ke_call G_p25 (by exact hr.mono (by decide)) T.g_p25 T.F_p25.kp T.b_p25 pass0 (ka_cons (kv 5) (ka_cons (kv 5) ka_nil))) (kv 5)))))))))))))
end
end K65
namespace K65
open PySem PySem.Spec PyProof.Rows L2 MM
theorem read_size {K:PySem.W.Frag} {a:Ad} {N:List Str} {vs:List V} {H:Hp} {Q:VK} {E:XK} (hN:N.length = 3) (h:spSize K vs H Q E):rd_size K a { nx:=fun _ H'=>Q .non H',rt:=Q } (L2.start N vs) H:=by
  obtain ⟨sc,ns,rfl,hS,hl,q⟩:=h
  unfold rd_size L2.start
  rw [hN]
  refine seq_set fun c hc=>?_
  and_intros
  refine ⟨by decide,fun p hp=>?_⟩
  have s1:=Same.up (o:=HO.lst [V.int 2,V.int 3,V.int 4,V.int 5,V.int 10,V.int 26]) H hp
  refine ⟨sc,ns,_,_,rfl,s1.seq hS,hl,by decide,by decide,by decide,fun r h0 h1=>?_⟩
  refine ixI_go (ns:=[2,3,4,5,10,26]) SqL.here h0 (by simp only [List.length_cons,List.length_nil]; omega) fun L hL _=>hc _ _ ?_
  clear hc c
  generalize upd H p _ = H1 at s1 ⊢
  have hS1:=s1.seq hS
  have hL2:2 ≤ L∧L ≤ 26:=by
    simp only [List.mem_cons,List.not_mem_nil,or_false] at hL
    omega
  obtain ⟨L,rfl⟩:=Int.eq_ofNat_of_zero_le (a:=L) (by omega)
  refine seq_set fun c hc=>?_
  and_intros
  refine ⟨4,_,rfl,⟨sc,ns,_,_,rfl,hS1,hl,by decide,by decide,by split <;> omega,fun r2 h20 h21=>⟨_,rfl,hc _ _ ?_⟩⟩⟩
  clear hc c
  have hh:1 ≤ 1 + r2∧1 + r2 + 1 ≤ L:=by split at h21 <;> omega
  generalize 1 + r2 = h at hh ⊢
  and_intros
  refine ⟨sc,ns,_,_,rfl,hS1,hl,by decide,by decide,by decide,fun r3 h30 h31=>⟨rfl,?_⟩⟩
  by_cases z:r3 = 0
  · rw [if_pos (congrArg V.int z)]
    refine ⟨by decide,fun p2 hp2=>?_⟩
    have:=q _ p2 L (L - 1) (s1.new hp2 (o:=.tup [.int L,.int ((L:Int) - 1)])) (by rw [upd_same]; simp; omega) (by omega) (by omega) (by omega) (by omega)
    exact this
  · rw [if_neg (fun y=>z (V.int.inj y))]
    refine ⟨by decide,fun p2 hp2=>?_⟩
    have:=q _ p2 L h.toNat (s1.new hp2 (o:=.tup [.int L,.int h])) (by rw [upd_same]; simp; omega) (by omega) (by omega) (by omega) (by omega)
    exact this
theorem isiT_go {K:PySem.W.Frag} {H:Hp} {a:Addr} {xs:List V} {Q:VK} (h:H a = some (.tup xs)) (q:Q (.bl true) H):rIsi K "tuple" (.ref a) H Q:=⟨_,_,.tup h,isTy_tuple_tuple,q⟩
theorem carA_nil {L:Nat} {m x:List Nat}:CarA L [] m (some x) ↔ x = m:=by
  show some x = some m ↔ _
  simp
theorem Laid.swap {L:Nat} {zs zs' xs:List (List Nat × List Nat)} {ws ws' ks:List (List Nat)} (A:Laid L [] zs ws zs' ws' xs ks):Laid L [] zs' ws' zs ws xs ks:=by
  obtain ⟨S,M,e⟩:=A.th
  have f:∀ (zs:List (List Nat × List Nat)) (q:List Nat × List Nat),(∃ z ∈ zs,CarA L [] z.1 (some q.1)∧z.2 = q.2) ↔ q ∈ zs:=fun zs q=>by
    constructor
    · rintro ⟨z,hz,c,e⟩
      rw [carA_nil] at c
      rw [show q = z from Prod.ext c e.symm]; exact hz
    · intro h; exact ⟨q,h,carA_nil.mpr rfl,rfl⟩
  have g:∀ (ws:List (List Nat)) (m:List Nat),(∃ w ∈ ws,CarA L [] w (some m)) ↔ m ∈ ws:=fun ws m=>by
    constructor
    · rintro ⟨z,hz,c⟩
      rw [carA_nil] at c
      rw [c]; exact hz
    · intro h; exact ⟨m,h,carA_nil.mpr rfl⟩
  refine ⟨⟨S,M,fun q=>?_⟩,A.kup,fun m=>?_,by have:=A.xlen; omega,by have:=A.klen; omega⟩
  · rw [e,f,f]; exact Or.comm
  · rw [A.tk,g,g]; exact Or.comm
structure StM (L:Nat) (zs:List (List Nat × List Nat)) (ws:List (List Nat)) (k:Nat):Prop where
  mar:∀ m ∈ zs.map (·.1) ++ ws,Mark L m∧m.length ≤ 30000
  thi:∀ z ∈ zs,Thing z.2
  zl:zs.length ≤ k
  wl:ws.length ≤ k
theorem StM.ok {L k:Nat} {zs:List (List Nat × List Nat)} {ws:List (List Nat)} (T:StM L zs ws k) {R:List (List RwN)} (hL26:L ≤ 26) (O:∀ r ∈ R,RowsOk L r):StOk R zs ws:=
  ⟨RowsOk.str hL26 O,fun z hz=>⟨strOk_mark hL26 (T.mar z.1 (List.mem_append_left _ (List.mem_map_of_mem (f:=(·.1)) hz))).1.ls,strOk_thing (T.thi z hz)⟩,fun w hw=>strOk_mark hL26 (T.mar w (List.mem_append_right _ hw)).1.ls⟩
theorem Made.stM {L:Nat} {zs:List (List Nat × List Nat)} {ws:List (List Nat)} (M:Made L zs ws):StM L zs ws 10:=by
  have zm:∀ m ∈ zs.map (·.1),Mark L m∧m.length ≤ 30000:=fun m hm=>by
    obtain ⟨z,hz,rfl⟩:=List.mem_map.mp hm
    have:=M.mar z hz
    exact ⟨this.1,by omega⟩
  refine ⟨fun m hm=>?_,fun z hz=>(M.mar z hz).2.2,M.few,?_⟩
  · rcases List.mem_append.mp hm with h | h
    · exact zm m h
    · exact zm m (M.sub.subset h)
  · have:=M.sub.length_le
    rw [List.length_map] at this
    have:=M.few
    omega
theorem Laid.stM {L k j n:Nat} {R:List (List RwN)} {zs zs' xs:List (List Nat × List Nat)} {ws ws' ks:List (List Nat)} (A:Laid L (R.drop n) zs' ws' zs ws xs ks) (hL:2 ≤ L) (O:∀ r ∈ R,RowsOk L r) (few:R.length ≤ 3) (M':Made L zs' ws') (T:StM L zs ws k) (hk:k + 10 ≤ j):StM L xs ks j:=by
  have OD:∀ r ∈ R.drop n,RowsOk L r:=fun r hr=>O r (List.drop_subset _ _ hr)
  have dl:(R.drop n).length ≤ 3:=by rw [List.length_drop]; omega
  obtain ⟨S,M,e⟩:=A.th
  have lenC:∀ m x,m ∈ zs'.map (·.1)→CarA L (R.drop n) m (some x)→Mark L x∧x.length ≤ 30000:=fun m x hm c=>by
    obtain ⟨z,hz,rfl⟩:=List.mem_map.mp hm
    have m1:=M'.mar z hz
    obtain ⟨a,b⟩:=c.len hL OD m1.1
    exact ⟨a,by omega⟩
  have T':=Made.stM M'
  refine ⟨fun m hm=>?_,fun z hz=>?_,by have:=A.xlen; have:=T.zl; have:=T'.zl; omega,by have:=A.klen; have:=T.wl; have:=T'.wl; omega⟩
  · rcases List.mem_append.mp hm with h | h
    · obtain ⟨z,hz,rfl⟩:=List.mem_map.mp h
      rcases (e z).mp (M.mem z hz) with ⟨z0,h0,c,_⟩ | h0
      · exact lenC _ _ (List.mem_map_of_mem (f:=(·.1)) h0) c
      · exact T.mar _ (List.mem_append_left _ (List.mem_map_of_mem (f:=(·.1)) h0))
    · rcases (A.tk m).mp h with ⟨w,h0,c⟩ | h0
      · exact lenC _ _ (M'.sub.subset h0) c
      · exact T.mar _ (List.mem_append_right _ h0)
  · rcases (e z).mp (M.mem z hz) with ⟨z0,h0,_,e0⟩ | h0
    · rw [← e0]; exact T'.thi z0 h0
    · exact T.thi z h0
theorem Laid.due {L n:Nat} {R:List (List RwN)} {zs zs' xs ys:List (List Nat × List Nat)} {ws ws' ks js:List (List Nat)} (A:Laid L (R.drop n) zs' ws' zs ws xs ks) (B:Due L R R.length n zs zs' ws ws' ys js):xs = ys∧ks = js:=by
  obtain ⟨S,M,e⟩:=A.th
  obtain ⟨S',M',e'⟩:=B.th
  have e0:R.drop R.length = []:=List.drop_length
  refine ⟨M.one M' fun q=>?_,up_set A.kup B.kup fun m=>?_⟩
  · rw [e,e',e0]
    constructor
    · rintro (z | z)
      · exact .inr z
      · exact .inl ⟨q,z,carA_nil.mpr rfl,rfl⟩
    · rintro (⟨z,hz,c,e⟩ | z)
      · rw [carA_nil] at c
        exact .inr (by rw [show q = z from Prod.ext c e.symm]; exact hz)
      · exact .inl z
  · rw [A.tk,B.tk,e0]
    constructor
    · rintro (z | z)
      · exact .inr z
      · exact .inl ⟨m,z,carA_nil.mpr rfl⟩
    · rintro (⟨z,hz,c⟩ | z)
      · rw [carA_nil] at c
        exact .inr (by rw [c]; exact hz)
      · exact .inl z
theorem Laid.again {L:Nat} {D:List (List RwN)} {zs zs' xs ys:List (List Nat × List Nat)} {ws ws' ks js:List (List Nat)} (A:Laid L D zs' ws' zs ws xs ks) (B:Laid L D zs' ws' xs ks ys js):ys = xs∧js = ks:=by
  obtain ⟨S,M,e⟩:=A.th
  obtain ⟨S',M',e'⟩:=B.th
  refine ⟨M'.one (S':=S') ⟨M.up,fun z hz=>(e' z).mpr (.inr hz),fun q hq=>?_⟩ fun q=>Iff.rfl,up_set B.kup A.kup fun m=>?_⟩
  · rcases (e' q).mp hq with h | h
    · exact M.all q ((e q).mpr (.inl h))
    · exact ⟨q,h,rfl,List.lt_irrefl _⟩
  · rw [B.tk]
    constructor
    · rintro (z | z)
      · exact (A.tk m).mpr (.inl z)
      · exact z
    · exact .inr
theorem Laid.self {L:Nat} {zs xs:List (List Nat × List Nat)} {ws ks:List (List Nat)} (A:Laid L [] zs ws zs ws xs ks) (zu:(zs.map (·.1)).Pairwise (· < ·)) (wu:ws.Pairwise (· < ·)):xs = zs∧ks = ws:=by
  obtain ⟨S,M,e⟩:=A.th
  refine ⟨M.one (MinOf.self zu) fun q=>?_,up_set A.kup wu fun m=>?_⟩
  · rw [e]
    constructor
    · rintro (⟨z,hz,c,e⟩ | z)
      · rw [carA_nil] at c
        rw [show q = z from Prod.ext c e.symm]; exact hz
      · exact z
    · exact .inr
  · rw [A.tk]
    constructor
    · rintro (⟨z,hz,c⟩ | z)
      · rw [carA_nil] at c
        rw [c]; exact hz
      · exact z
    · exact .inr
section
variable {K:PySem.W.Frag} {H:Hp} {p p1 p2 p3 q q1 q2 q3:Addr} {bs cs:List Addr} {ts us:List V} {L h n k j:Nat} {R:List (List RwN)} {zs zs':List (List Nat × List Nat)} {ws ws':List (List Nat)} {Q:VK} {E:XK}
theorem laid_up (A:StA H p p1 p2 p3 bs ts L h R zs ws) (B:StA H q q1 q2 q3 cs us L h (R.take n) zs' ws') (hL:2 ≤ L) (hL26:L ≤ 26) (hn:n ≤ R.length) (few:R.length ≤ 3) (O:∀ r ∈ R,RowsOk L r) (T:StM L zs ws 20) (T':StM L zs' ws' 10)
    (r:∀ H' o o1 o2 o3 ds vs xs ks,Same H H'→StA H' o o1 o2 o3 ds vs L h R xs ks→Laid L (R.drop n) zs' ws' zs ws xs ks→Q (.ref o) H'):spLaid K [.ref q,.ref p] H Q E:=by
  have a1:=T.zl
  have a2:=T.wl
  have a3:=T'.zl
  have a4:=T'.wl
  exact ⟨_,p,n,R,rfl,.inl ⟨q1,q2,q3,p1,p2,p3,cs,bs,us,ts,L,h,zs',zs,ws',ws,B,A,⟨hL,hL26,hn,by omega,O,T'.mar,by omega,by omega,by omega⟩,fun H' o o1 o2 o3 ds vs xs ks s S _ _ l=>r H' o o1 o2 o3 ds vs xs ks s S l⟩⟩
theorem laid_down (A:StA H p p1 p2 p3 bs ts L h R zs ws) (B:StA H q q1 q2 q3 cs us L h (R.take n) zs' ws') (hL:2 ≤ L) (hL26:L ≤ 26) (hn:n ≤ R.length) (few:R.length ≤ 3) (O:∀ r ∈ R,RowsOk L r) (T:StM L zs ws 20) (T':StM L zs' ws' 10)
    (r:∀ H' o o1 o2 o3 ds vs xs ks,Same H H'→StA H' o o1 o2 o3 ds vs L h R xs ks→Laid L (R.drop n) zs' ws' zs ws xs ks→Q (.ref o) H'):spLaid K [.ref p,.ref q] H Q E:=by
  have a1:=T.zl
  have a2:=T.wl
  have a3:=T'.zl
  have a4:=T'.wl
  rcases Nat.lt_or_ge n R.length with z | z
  · exact ⟨p,_,n,R,rfl,.inr ⟨z,q1,q2,q3,p1,p2,p3,cs,bs,us,ts,L,h,zs',zs,ws',ws,B,A,⟨hL,hL26,hn,by omega,O,T'.mar,by omega,by omega,by omega⟩,fun H' o o1 o2 o3 ds vs xs ks s S _ _ l=>r H' o o1 o2 o3 ds vs xs ks s S l⟩⟩
  · have e:n = R.length:=by omega
    subst e
    rw [List.take_length] at B
    rw [List.drop_length] at r
    refine ⟨p,_,R.length,R,rfl,.inl ⟨p1,p2,p3,q1,q2,q3,bs,cs,ts,us,L,h,zs,zs',ws,ws',by rw [List.take_length]; exact A,B,⟨hL,hL26,hn,by omega,O,T.mar,by omega,by omega,by omega⟩,fun H' o o1 o2 o3 ds vs xs ks s S _ _ l=>r H' o o1 o2 o3 ds vs xs ks s S (Laid.swap (by rw [List.drop_length] at l; exact l))⟩⟩
end
theorem lay_st {L h:Nat} {R:List (List RwN)} {zs:List (List Nat × List Nat)} {ws:List (List Nat)} (ok:StOk R zs ws):PyData.canLay0 (stD L h R zs ws) = true∧PyData.depth (stD L h R zs ws) ≤ 5:=by
  obtain ⟨a,b⟩:=lay_rows ok.rows
  obtain ⟨c,d⟩:=lay_pairs (thing_ok ok.things)
  have o2:∀ y ∈ ws.map txt,PyData.strOk y = true:=fun y hy=>by obtain ⟨z,hz,rfl⟩:=List.mem_map.mp hy; exact ok.taken z hz
  unfold stD
  have cl:=canLay_strs _ o2
  have dl:=depth_strs (ws.map txt)
  generalize (ws.map txt).map PyData.str = D2 at cl dl ⊢
  refine ⟨by simp [PyData.canLay0,PyData.canLayAll0,a,c,cl],?_⟩
  simp only [PyData.depth,PyData.depthAll,dl]
  omega
theorem shaped_two {L h:Nat} {R R':List (List RwN)} {zs zs':List (List Nat × List Nat)} {ws ws':List (List Nat)} (ok:StOk R zs ws) (ok':StOk R' zs' ws'):SeqAt.shaped (.list [stD L h R zs ws,stD L h R' zs' ws']) = true:=by
  obtain ⟨a,b⟩:=lay_st (L:=L) (h:=h) ok
  obtain ⟨c,d⟩:=lay_st (L:=L) (h:=h) ok'
  unfold SeqAt.shaped
  rw [Bool.and_eq_true]
  refine ⟨by simp [PyData.canLay0,PyData.canLayAll0,a,c],?_⟩
  rw [decide_eq_true_eq]
  simp only [PyData.depth,PyData.depthAll]
  omega
theorem cutV_n (xs:List V) (k:Nat):cutV xs none (some (k:Int)) = xs.take k:=by
  unfold cutV
  rw [HT.sIx_none,HT.sIx_nat,List.drop_zero,Nat.sub_zero]
  rcases Nat.le_total k xs.length with z | z
  · rw [Nat.min_eq_left z]
  · rw [Nat.min_eq_right z,List.take_length,List.take_of_length_le z]
theorem Prs.getP {H:Hp} {xs:List V} {zs:List (List Nat × List Nat)} (p:Prs H xs (zs.map stP)) {i:Nat} {x:V} (e:xs[i]? = some x):∃ z t,zs[i]? = some z∧x = .ref t∧H t = some (.tup [strV z.1,strV z.2]):=by
  obtain ⟨kv,t,ek,rfl,ht⟩:=p.get e
  rw [List.getElem?_map] at ek
  obtain ⟨z,ez,rfl⟩:=Option.map_eq_some_iff.mp ek
  exact ⟨z,t,ez,rfl,ht⟩
def OInv (H:Hp) (σ0:List (Option V)):Nat→L2.St→Hp→Prop:=fun i σ H'=>∃ v8:Option V,H' = H∧σ = σ0 ++ [v8]
theorem read_law {K:PySem.W.Frag} {a:Ad} {N:List Str} {vs:List V} {H:Hp} {Q:VK} {E:XK} (hN:N.length = 9) (h:spLaw K vs H Q E):rd_law K a { nx:=fun _ H'=>Q .non H',rt:=Q } (L2.start N vs) H:=by
  obtain ⟨sc,ns,rfl,hS,hl,fin⟩:=h
  unfold rd_law L2.start
  rw [hN]
  refine seq_set fun c hc=>?_
  and_intros
  refine ⟨sc,ns,rfl,hS,hl,fun H1 ps L h s1 eps hL hL26 h1 hhL=>hc _ _ ?_⟩
  clear hc c
  simp only [List.set_cons_zero,List.set_cons_succ,List.replicate_succ,List.replicate_zero,List.map_cons,List.map_nil,List.cons_append,List.nil_append]
  have hS1:=s1.seq hS
  refine seq_cset fun c hc=>?_
  refine comp_r1x (B:=4) (fun R hR=>by and_intros; exact ⟨sc,ns,_,_,rfl,hS1,hl,by decide,by decide,by decide,fun r h0 h1=>hR r h0 h1⟩) (by decide)
    (fun i ys H'=>Same H1 H'∧∃ bs R,ys = bs.map V.ref∧RowsC H' bs R∧R.length = i∧∀ r ∈ R,RowsT L r∧r.length ≤ 4) ⟨Same.refl _,[],[],rfl,trivial,rfl,fun r hr=>(nomatch hr)⟩
    (fun i ys H' p=>by obtain ⟨_,bs,R,e,rc,er,_⟩:=p; rw [e,List.length_map,rc.len,er]; exact Nat.le_refl _) ?_ ?_
  · rintro i ys H' hi ⟨s',bs,R,rfl,rc,er,hR⟩ W hW
    and_intros
    refine ⟨mulB_l (by decide) (by decide),ixT_go (v:=.int L) (SqT.of (s' _ _ eps)) (by decide) rfl ⟨sc,ns,_,L,rfl,s'.seq hS1,hl,by omega,by omega,hL,hL26,fun H2 o xs r s2 ho eo pr rt r4=>hW _ _ ⟨s'.trans s2,bs ++ [o],R ++ [r],by rw [List.map_append]; rfl,(rc.same s2).app ⟨⟨xs,eo,pr⟩,trivial⟩,by rw [List.length_append,er]; rfl,fun r' hr'=>?_⟩⟩⟩
    rcases List.mem_append.mp hr' with z | z
    · exact hR r' z
    · rw [List.mem_singleton.mp z]; exact ⟨rt,r4⟩
  rintro k ys Ha hk ⟨sa,ds,R,rfl,rc,er,hR⟩ pr hpr
  refine hc _ _ ?_
  clear hc c
  have s12:=sa.new hpr (o:=.lst (ds.map V.ref))
  have rc2:=rc.same (Same.up Ha hpr (o:=.lst (ds.map V.ref)))
  have er2:(upd Ha pr (.lst (ds.map V.ref))) pr = some (.lst (ds.map V.ref)):=upd_same
  generalize upd Ha pr _ = H2 at s12 rc2 er2 ⊢
  have few:R.length ≤ 3:=by omega
  have O:∀ r ∈ R,RowsOk L r:=fun r hr=>(hR r hr).1.ok
  have s2:=s1.trans s12
  have dl:=rc2.len
  simp only [List.set_cons_zero,List.set_cons_succ]
  refine seq_set fun c hc=>?_
  and_intros
  refine ⟨by decide,fun pe hpe=>?_⟩
  have s23:=Same.up H2 hpe (o:=.lst [])
  have epe:(upd H2 pe (.lst [])) pe = some (.lst (([]:List (List Nat)).map strV)):=upd_same
  generalize upd H2 pe _ = H3 at s23 epe ⊢
  have s3:=s2.trans s23
  refine ⟨sc,ps,pr,pe,ns,1000,ds,R,[],L,h,rfl,s3.seq hS,hl,by decide,by decide,(s12.trans s23) _ _ eps,s23 _ _ er2,rc2.same s23,few,hR,epe,by decide,fun m hm=>(nomatch hm),hL,hL26,fun H4 p p1 p2 p3 bs ts zs ws s34 A4 M=>hc _ _ ?_⟩
  clear hc c
  have s24:=s23.trans s34
  have s4:=s2.trans s24
  simp only [List.set_cons_zero,List.set_cons_succ]
  refine seq_set fun c hc=>?_
  and_intros
  refine lenL_go (SqL.of (s24 _ _ er2)) ?_
  rw [List.length_map,dl]
  refine ⟨_,rfl,sc,ns,_,_,rfl,s4.seq hS,hl,by decide,by decide,by omega,fun n hn0 hn1=>?_⟩
  obtain ⟨n,rfl⟩:=Int.eq_ofNat_of_zero_le hn0
  have hn:n ≤ R.length:=by omega
  refine ⟨_,rfl,slL_go (SqL.of (s24 _ _ er2)) fun pf hpf=>hc _ _ ?_⟩
  clear hc c
  rw [cutV_to (by rw [List.length_map]; omega),← List.map_take]
  have s45:=Same.up H4 hpf (o:=.lst ((ds.take n).map V.ref))
  have epf:(upd H4 pf (.lst ((ds.take n).map V.ref))) pf = some (.lst ((ds.take n).map V.ref)):=upd_same
  generalize upd H4 pf _ = H5 at s45 epf ⊢
  have s25:=s24.trans s45
  have s5:=s2.trans s25
  have A5:=A4.same s45
  simp only [List.set_cons_zero,List.set_cons_succ,List.replicate_succ,List.replicate_zero,List.length_cons,List.length_nil,Nat.reduceAdd,Nat.reduceSub]
  have rc5:=rc2.same s25
  have tsl:=A5.prs.len
  rw [List.length_map] at tsl
  have T:=Made.stM M
  have zl:=T.zl
  refine seq_set fun c hc=>?_
  suffices main:∀ H8 o q1 q2 q3 cs us zs' ws',Same H5 H8→StA H8 o q1 q2 q3 cs us L h (R.take n) zs' ws'→Made L zs' ws'→c (.ref o) H8 by
    and_intros
    refine comp_pre ?_
    and_intros
    refine ixT_go (v:=.ref p2) (SqT.of A5.top) (by decide) rfl (slL_go (SqL.of A5.thi) fun px hpx=>?_)
    rw [show cutV ts none (some 3) = ts.take 3 from cutV_n ts 3]
    have s56:=Same.up H5 hpx (o:=.lst (ts.take 3))
    have epx:(upd H5 px (.lst (ts.take 3))) px = some (.lst (ts.take 3)):=upd_same
    generalize upd H5 px _ = H6 at s56 epx ⊢
    have A6:=A5.same s56
    refine comp_l (a:=px) (xs:=ts.take 3) (fun Q h=>h) (SqL.of epx) (fun i ys H'=>H' = H6∧ys = (((zs.map (·.1)).take 3).take i).map strV) ⟨rfl,rfl⟩ (fun i ys H' _ p=>⟨by rw [p.1]; exact SqL.of epx,by rw [p.2,List.length_map,List.length_take]; omega⟩) (by rw [List.length_take,sizeLine_eq]; omega) ?_ ?_
    · rintro i x ys H' hx ⟨rfl,rfl⟩ W hW
      have hx2:=hx
      rw [List.getElem?_take] at hx2
      split at hx2
      · rename_i hi3
        obtain ⟨z,t,ez,rfl,ht⟩:=Prs.getP A6.prs hx2
        and_intros
        refine ixT_go (v:=strV z.1) (SqT.of ht) (by decide) rfl (hW _ _ ⟨rfl,?_⟩)
        have eg:((zs.map (·.1)).take 3)[i]? = some z.1:=by rw [List.getElem?_take,if_pos hi3,List.getElem?_map,ez]; rfl
        generalize (zs.map (·.1)).take 3 = g at eg ⊢
        rw [List.take_add_one,eg,List.map_append]
        rfl
      · cases hx2
    · rintro ys H' ⟨rfl,rfl⟩ pm hpm
      have s67:=Same.up H' hpm (o:=.lst ((((zs.map (·.1)).take 3).take (ts.take 3).length).map strV))
      have epm:(upd H' pm (.lst ((((zs.map (·.1)).take 3).take (ts.take 3).length).map strV))) pm = some (.lst ((((zs.map (·.1)).take 3).take (ts.take 3).length).map strV)):=upd_same
      generalize upd H' pm _ = H7 at s67 epm ⊢
      have s57:=s56.trans s67
      have s7:=s5.trans s57
      refine ⟨sc,ps,pf,pm,ns,1500,ds.take n,R.take n,_,L,h,rfl,s7.seq hS,hl,by decide,by decide,(s12.trans (s25.trans s57)) _ _ eps,s57 _ _ epf,(rc5.same s57).take n,by rw [List.length_take]; omega,fun r hr=>hR r (List.take_subset _ _ hr),epm,by rw [List.length_take,List.length_take]; omega,fun m hm=>?_,hL,hL26,fun H8 o q1 q2 q3 cs us zs' ws' s78 B M'=>main H8 o q1 q2 q3 cs us zs' ws' (s57.trans s78) B M'⟩
      obtain ⟨z,hz,rfl⟩:=List.mem_map.mp (List.take_subset _ _ (List.take_subset _ _ hm))
      have:=M.mar z hz
      exact ⟨this.1,this.2.1⟩
  intro H8 q q1 q2 q3 cs us zs' ws' s58 B8 M'
  refine hc _ _ ?_
  clear hc c
  have T':=Made.stM M'
  have zl':=T'.zl
  have wl:=T.wl
  have wl':=T'.wl
  have A8:=A5.same s58
  have s28:=s25.trans s58
  simp only [List.set_cons_zero,List.set_cons_succ]
  refine seq_set fun c hc=>?_
  and_intros
  refine ⟨p,p1,p2,p3,bs,ts,L,h,R,zs,ws,rfl,A8,by omega,fun H9 ka ka1 ka2 ka3 kas s89 KA9=>?_⟩
  refine ⟨q,q1,q2,q3,cs,us,L,h,R.take n,zs',ws',rfl,B8.same s89,by rw [List.length_take]; omega,fun HA kb kb1 kb2 kb3 kbs s9A KBA=>⟨by decide,fun pk hpk=>hc _ _ ?_⟩⟩
  clear hc c
  have sAB:=Same.up HA hpk (o:=.lst [.ref ka,.ref kb])
  have epk:(upd HA pk (.lst [.ref ka,.ref kb])) pk = some (.lst [.ref ka,.ref kb]):=upd_same
  generalize upd HA pk _ = HB at sAB epk ⊢
  have s8B:=s89.trans (s9A.trans sAB)
  have AB:=A8.same s8B
  have BB:=B8.same s8B
  have KAB:=KA9.same (s9A.trans sAB)
  have KBB:=KBA.same sAB
  have s2B:=s28.trans s8B
  simp only [List.set_cons_zero,List.set_cons_succ]
  refine seq_set fun c hc=>?_
  and_intros
  refine ⟨p,p1,p2,p3,q,q1,q2,q3,pr,bs,cs,ds,ts,us,L,h,R.length,n,R,zs,zs',ws,ws',rfl,by rw [List.take_length]; exact AB,BB,s2B _ _ er2,rc2.same s2B,O,Nat.le_refl _,hn,by omega,hL,hL26,T.mar,T'.mar,by omega,by omega,fun HC d d1 d2 d3 dcs dvs dx dk sBC DC due=>hc _ _ ?_⟩
  clear hc c
  have T20:StM L zs ws 20:=⟨T.mar,T.thi,by omega,by omega⟩
  simp only [List.set_cons_zero,List.set_cons_succ]
  refine seq_any fun c hc=>?_
  refine for_pre ?_
  and_intros
  refine laid_down (AB.same sBC) (BB.same sBC) hL hL26 hn few O T20 T' fun HD o1 o11 o12 o13 es1 vs1 x1 k1 sCD S1 l1=>?_
  obtain ⟨rfl,rfl⟩:=Laid.due l1 due
  have sBD:=sBC.trans sCD
  refine laid_up (AB.same sBD) (BB.same sBD) hL hL26 hn few O T20 T' fun HE o2 o21 o22 o23 es2 vs2 x2 k2 sDE S2 l2=>?_
  obtain ⟨rfl,rfl⟩:=Laid.one l1 l2
  have sBE:=sBD.trans sDE
  refine laid_down (AB.same sBE) (BB.same sBE) hL hL26 hn few O T20 T' fun HF o3 o31 o32 o33 es3 vs3 x3 k3 sEF S3 l3=>?_
  obtain ⟨rfl,rfl⟩:=Laid.one l1 l3
  have sBF:=sBE.trans sEF
  have TX:=Laid.stM (j:=20) l1 hL O few M' T (by omega)
  refine laid_down S3 (BB.same sBF) hL hL26 hn few O TX T' fun HG o4 o41 o42 o43 es4 vs4 x4 k4 sFG S4 l4=>?_
  obtain ⟨rfl,rfl⟩:=Laid.again l1 l4
  have sBG:=sBF.trans sFG
  have sEG:=sEF.trans sFG
  have sDG:=sDE.trans sEG
  refine ⟨by decide,fun pl hpl=>?_⟩
  have sGH:=Same.up HG hpl (o:=.lst [.ref o1,.ref o2,.ref o4])
  have epl:(upd HG pl (.lst [.ref o1,.ref o2,.ref o4])) pl = some (.lst [.ref o1,.ref o2,.ref o4]):=upd_same
  generalize upd HG pl _ = HH at sGH epl ⊢
  have sBH:=sBG.trans sGH
  have okd:StOk R x4 k4:=TX.ok hL26 O
  have DH:=DC.same (sCD.trans (sDG.trans sGH))
  have all:∀ x ∈ [V.ref o1,V.ref o2,V.ref o4],∃ o o1 o2 o3 es vs,x = .ref o∧StA HH o o1 o2 o3 es vs L h R x4 k4:=fun x hx=>by
    simp only [List.mem_cons,List.not_mem_nil,or_false] at hx
    rcases hx with rfl | rfl | rfl
    · exact ⟨_,_,_,_,_,_,rfl,S1.same (sDG.trans sGH)⟩
    · exact ⟨_,_,_,_,_,_,rfl,S2.same (sEG.trans sGH)⟩
    · exact ⟨_,_,_,_,_,_,rfl,S4.same sGH⟩
  refine for_l (a:=pl) (xs:=[.ref o1,.ref o2,.ref o4]) (fun Q h=>h) (SqL.of epl) (OInv HH [some (.ref sc),some (.ref ps),some (.ref pr),some (.ref p),some (.ref pf),some (.ref q),some (.ref pk),some (.ref d)]) ⟨none,rfl,rfl⟩ (fun i σ H' _ h=>by obtain ⟨_,e,_⟩:=h; rw [e]; exact SqL.of epl) ?_ ?_
  · rintro i x σ H' hx ⟨v8,rfl,rfl⟩
    obtain ⟨o,o1,o2,o3,es,vs,rfl,S⟩:=all x (List.mem_of_getElem? hx)
    and_intros
    refine isiT_go S.top ⟨_,rfl,?_⟩
    and_intros
    refine ne_states S DH okd ⟨_,rfl,?_⟩
    rw [if_neg (by decide)]
    exact ⟨_,rfl,rfl⟩
  rintro σ H' ⟨v8,rfl,rfl⟩
  refine hc _ _ ?_
  clear hc c
  have AH:=AB.same sBH
  have BH:=BB.same sBH
  have ok1:=T.ok hL26 O
  have ok2:=T'.ok (R:=R.take n) hL26 fun r hr=>O r (List.take_subset _ _ hr)
  simp? [List.cons_append,List.nil_append]
  refine ⟨by decide,fun pz hpz=>?_⟩
  have sHI:=Same.up H' hpz (o:=.lst [.ref p,.ref q])
  have epz:(upd H' pz (.lst [.ref p,.ref q])) pz = some (.lst [.ref p,.ref q]):=upd_same
  generalize upd H' pz _ = HI at sHI epz ⊢
  have sBI:=sBH.trans sHI
  have AI:=AB.same sBI
  have BI:=BB.same sBI
  have sh:=shaped_two (L:=L) (h:=h) ok1 ok2
  refine ⟨_,_,.lst (SqL.of epz) (.cons (AI.dat ok1) (.cons (BI.dat ok2) .nil)),.lst (SqL.of (sBI _ _ epk)) (.cons ((KAB.same sBI).dat ok1) (.cons ((KBB.same sBI).dat ok2) .nil)),sh,sh,_,rfl,?_⟩
  rw [SeqAt.eqv_refl _ (SeqAt.canLay_of_shaped sh),if_pos rfl]
  have BI':StA HI q q1 q2 q3 cs us L h ((R.take n).take n) zs' ws':=by rw [List.take_take,Nat.min_self]; exact BI
  have T20':StM L zs' ws' 20:=⟨T'.mar,T'.thi,by omega,by omega⟩
  refine laid_up (n:=n) BI BI' hL hL26 (by rw [List.length_take]; omega) (by rw [List.length_take]; omega) (fun r hr=>O r (List.take_subset _ _ hr)) T20' T' fun HJ o5 o51 o52 o53 es5 vs5 x5 k5 sIJ S5 l5=>?_
  rw [List.drop_of_length_le (by rw [List.length_take]; omega)] at l5
  obtain ⟨rfl,rfl⟩:=Laid.self l5 M'.up (M'.up.sublist M'.sub)
  exact eq_states S5 (BI.same sIJ) ok2 (fin _)
end K65
def PySem.W.Fast.tw1388089028071049492:Nat:=0
def PySem.W.Fast.tw18073026722512529923:Nat:=0
def PySem.W.Fast.tw2518994195148655513:Nat:=0
def PySem.W.Fast.tw13188130222923344682:Nat:=0
def PySem.W.Fast.tw16527152835712986748:Nat:=0
def PySem.W.Fast.tw6680056777834890919:Nat:=0
def PySem.W.Fast.tw6836163470155722947:Nat:=0
def PySem.W.Fast.tw9306788630329407411:Nat:=0
def PySem.W.Fast.tw13620514700599696069:Nat:=0
def PySem.W.Fast.tw12041225349472308506:Nat:=0
def PySem.W.Fast.tw615194342768066478:Nat:=0
def PySem.W.Fast.tw7812846322143087719:Nat:=0
def PySem.W.Fast.tw4151358255083872533:Nat:=0
def PySem.W.Fast.tw16604355462787962387:Nat:=0
def PySem.W.Fast.tw12451539764744981333:Nat:=0
def PySem.W.Fast.tw15297557683746452428:Nat:=0
def PySem.W.Fast.tw15195007991986422852:Nat:=0
def PySem.W.Fast.tw9013052642082272599:Nat:=0
def PySem.W.Fast.tw16874309460312046366:Nat:=0
def PySem.W.Fast.tw14078934599554487858:Nat:=0
namespace K65
open PySem PySem.Spec PyProof.Rows L2 MM
section
variable {P:Program} {w:World} {K:PySem.W.Frag} {mg:Str→Option Value} {base:Heap} {a:Ad}
theorem ok_p33 (T : Tx K mg a) : FnOk P w K mg base CX0 1 a.f_p33 a.fd_p33 ["letters", "long"] spPower :=
  T.F_p33.okQ sc_p33 (fun _ _ _ _ h=>by obtain ⟨_,_,e,_⟩:=h; rw [e]; rfl) (fun _ _ _ _ _ _ hr=>pr_p33 T  hr) fun _ _ _ _ h=>read_power rfl h
theorem ok_p22 (T : Tx K mg a) : FnOk P w K mg base CX0 1 a.f_p22 a.fd_p22 ["mark", "place"] spFig :=
  T.F_p22.okQ sc_p22 (fun _ _ _ _ h=>by obtain ⟨_,_,e,_⟩:=h; rw [e]; rfl) (fun _ _ _ _ _ _ hr=>pr_p22 T  hr) fun _ _ _ _ h=>read_fig rfl h
theorem ok_p37 (T : Tx K mg a) : FnOk P w K mg base CX0 2 a.f_p37 a.fd_p37 ["letters", "mark", "long"] spWhole :=
  T.F_p37.okQ sc_p37 (fun _ _ _ _ h=>by obtain ⟨_,_,_,e,_⟩:=h; rw [e]; rfl) (fun _ _ _ _ _ _ hr=>pr_p37 T (ok_p22 T) hr) fun _ _ _ _ h=>read_whole rfl h
theorem ok_p28 (T : Tx K mg a) : FnOk P w K mg base CX0 1 a.f_p28 a.fd_p28 ["letters", "number", "long"] spMarkOf :=
  T.F_p28.okQ sc_p28 (fun _ _ _ _ h=>by obtain ⟨_,_,_,e,_⟩:=h; rw [e]; rfl) (fun _ _ _ _ _ _ hr=>pr_p28 T  hr) fun _ _ _ _ h=>read_markOf rfl h
theorem ok_p21 (T : Tx K mg a) : FnOk P w K mg base CX0 1 a.f_p21 a.fd_p21 ["letters", "hands", "hand"] spEnds :=
  T.F_p21.okQ sc_p21 (fun _ _ _ _ h=>by obtain ⟨_,_,_,e,_⟩:=h; rw [e]; rfl) (fun _ _ _ _ _ _ hr=>pr_p21 T  hr) fun _ _ _ _ h=>read_ends rfl h
theorem ok_p16 (T : Tx K mg a) : FnOk P w K mg base (CX1 P w) 1 a.f_p16 a.fd_p16 ["low", "high"] (spAskRoom a.c_NoRoom) :=
  T.F_p16.okX sc_p16 (fun _ _ _ _ h=>by obtain ⟨_,_,e,_⟩:=h; rw [e]; rfl) (fun _ _ _ _ _ _ hr=>pr_p16 T  hr) fun _ _ _ _ h=>read_askRoom rfl h
theorem ok_p24 (T : Tx K mg a) : FnOk P w K mg base CX0 3 a.f_p24 a.fd_p24 ["letters", "high", "long"] spHigh :=
  T.F_p24.okQ sc_p24 (fun _ _ _ _ h=>by obtain ⟨_,_,_,e,_⟩:=h; rw [e]; rfl) (fun _ _ _ _ _ _ hr=>pr_p24 T (ok_p33 T) (ok_p37 T) hr) fun _ _ _ _ h=>read_high rfl h
theorem ok_p31 (T : Tx K mg a) : FnOk P w K mg base CX0 1 a.f_p31 a.fd_p31 ["letters", "ends", "number"] spBelow :=
  T.F_p31.okQ sc_p31 (fun _ _ _ _ h=>by obtain ⟨_,_,_,e,_⟩:=h; rw [e]; rfl) (fun _ _ _ _ _ _ hr=>pr_p31 T  hr) fun _ _ _ _ h=>read_below rfl h
theorem ok_p32 (T : Tx K mg a) : FnOk P w K mg base CX0 2 a.f_p32 a.fd_p32 ["letters", "ends", "low_whole"] spUpLow :=
  T.F_p32.okQ sc_p32 (fun _ _ _ _ h=>by obtain ⟨_,_,_,e,_⟩:=h; rw [e]; rfl) (fun _ _ _ _ _ _ hr=>pr_p32 T (ok_p31 T) hr) fun _ _ _ _ h=>read_upLow rfl h
theorem ok_p30 (T : Tx K mg a) : FnOk P w K mg base CX0 2 a.f_p30 a.fd_p30 ["letters", "ends", "high", "high_whole", "long", "beginnings"] spAhead :=
  T.F_p30.okQ sc_p30 (fun _ _ _ _ h=>by obtain ⟨_,_,_,_,_,_,e,_⟩:=h; rw [e]; rfl) (fun _ _ _ _ _ _ hr=>pr_p30 T (ok_p31 T) hr) fun _ _ _ _ h=>read_ahead rfl h
theorem ok_p20 (T : Tx K mg a) : FnOk P w K mg base CX0 4 a.f_p20 a.fd_p20 ["letters", "ends", "low", "high", "long", "beginnings"] spCounted :=
  T.F_p20.okQ sc_p20 (fun _ _ _ _ h=>by obtain ⟨_,_,_,_,_,_,e,_⟩:=h; rw [e]; rfl) (fun _ _ _ _ _ _ hr=>pr_p20 T (ok_p37 T) (ok_p24 T) (ok_p30 T) (ok_p32 T) hr) fun _ _ _ _ h=>read_counted rfl h
theorem ok_p29 (T : Tx K mg a) : FnOk P w K mg base (CX1 P w) 3 a.f_p29 a.fd_p29 ["letters", "hands", "hand", "low", "high", "long", "number"] (spNth a.c_NoRoom) :=
  T.F_p29.okX sc_p29 (fun _ _ _ _ h=>by obtain ⟨_,_,_,_,_,_,_,e,_⟩:=h; rw [e]; rfl) (fun _ _ _ _ _ _ hr=>pr_p29 T (ok_p16 T) (ok_p21 T) (ok_p37 T) (ok_p32 T) (ok_p28 T) hr) fun _ _ _ _ h=>read_nth rfl h
theorem ok_p27 (T : Tx K mg a) : FnOk P w K mg base CX0 4 a.f_p27 a.fd_p27 ["letters", "ends", "low", "high", "many", "beginnings"] spLeastC :=
  T.F_p27.okQ sc_p27 (fun _ _ _ _ h=>by obtain ⟨_,_,_,_,_,_,e,_⟩:=h; rw [e]; rfl) (fun _ _ _ _ _ _ hr=>pr_p27 T (ok_p24 T) (ok_p22 T) (ok_p30 T) (ok_p32 T) hr) fun _ _ _ _ h=>read_leastC rfl h
theorem ok_p36 (T : Tx K mg a) : FnOk P w K mg base (CX1 P w) 5 a.f_p36 a.fd_p36 ["letters", "low", "high"] (spStem a.c_NoRoom) :=
  T.F_p36.okX sc_p36 (fun _ _ _ _ h=>by obtain ⟨_,_,_,e,_⟩:=h; rw [e]; rfl) (fun _ _ _ _ _ _ hr=>pr_p36 T (ok_p16 T) (ok_p21 T) (ok_p27 T) (ok_p20 T) (ok_p29 T) hr) fun _ _ _ _ h=>read_stem rfl h
theorem ok_p34 (T : Tx K mg a) : FnOk P w K mg base CX0 1 a.f_p34 a.fd_p34 ["rows", "mark"] (spAheadR K) :=
  T.F_p34.okQ sc_p34 (fun _ _ _ _ h=>by obtain ⟨_,_,_,e,_⟩:=h; rw [e]; rfl) (fun _ _ _ _ _ _ hr=>pr_p34 T  hr) fun _ _ _ _ h=>read_aheadR rfl h
theorem ok_p23 (T:Tx K mg a):FnOk P w K mg base CX0 1 a.f_p23 a.fd_p23 ["rows"] (spFirstN K):=
  T.F_p23.okQ sc_p23 (fun _ _ _ _ h=>by obtain ⟨_,_,e,_⟩:=h; rw [e]; rfl) (fun _ _ _ _ _ _ hr=>pr_p23 T  hr) fun _ _ _ _ h=>read_firstN rfl h
theorem ok_p18 (T : Tx K mg a) : FnOk P w K mg base CX0 6 a.f_p18 a.fd_p18 ["letters", "rows", "mark", "stems"] (spCarK K) :=
  T.F_p18.okQ sc_p18 (fun _ _ _ _ h=>by obtain ⟨_,_,_,_,_,_,e,_⟩:=h; rw [e]; rfl) (fun _ _ _ _ _ _ hr=>pr_p18 T (ok_p34 T) (ok_p23 T) (ok_p36 T) hr) fun _ _ _ _ h=>read_carK rfl h
theorem ok_p35 (T : Tx K mg a) : FnOk P w K mg base CX0 1 a.f_p35 a.fd_p35 ["letters", "hands", "renewals", "things", "taken"] spStateOf :=
  T.F_p35.okQ sc_p35 (fun _ _ _ _ h=>by obtain ⟨_,_,_,_,_,_,_,_,_,_,e,_⟩:=h; rw [e]; rfl) (fun _ _ _ _ _ _ hr=>pr_p35 T  hr) fun _ _ _ _ h=>read_stateOf rfl h
theorem ok_p15 (T : Tx K mg a) : FnOk P w K mg base CX0 1 a.f_p15 a.fd_p15 ["fewer", "more"] (spMeet K) :=
  T.F_p15.okQ sc_p15 (fun _ _ _ _ h=>by obtain ⟨_,_,_,_,_,_,_,_,_,_,_,_,_,_,_,_,_,_,_,_,e,_⟩:=h; rw [e]; rfl) (fun _ _ _ _ _ _ hr=>pr_p15 T  hr) fun _ _ _ _ h=>read_meet rfl h
theorem ok_p17 (T : Tx K mg a) : FnOk P w K mg base CX0 7 a.f_p17 a.fd_p17 ["letters", "renewals", "mark", "stems"] (spCarAll K) :=
  T.F_p17.okQ sc_p17 (fun _ _ _ _ h=>by obtain ⟨_,_,_,_,_,_,_,e,_⟩:=h; rw [e]; rfl) (fun _ _ _ _ _ _ hr=>pr_p17 T (ok_p18 T) hr) fun _ _ _ _ h=>read_carAll rfl h
theorem ok_p19 (T : Tx K mg a) : FnOk P w K mg base CX0 8 a.f_p19 a.fd_p19 ["state", "renewals"] (spCarMarks K) :=
  T.F_p19.okQ sc_p19 (fun _ _ _ _ h=>by obtain ⟨_,_,_,_,_,_,_,_,_,_,_,_,_,_,e,_⟩:=h; rw [e]; rfl) (fun _ _ _ _ _ _ hr=>pr_p19 T (ok_p17 T) hr) fun _ _ _ _ h=>read_carMarks rfl h
theorem ok_p14 (T : Tx K mg a) : FnOk P w K mg base CX0 1 a.f_p14 a.fd_p14 ["one", "other"] (spAllThings K) :=
  T.F_p14.okQ sc_p14 (fun _ _ _ _ h=>by obtain ⟨_,_,_,_,_,_,e,_⟩:=h; rw [e]; rfl) (fun _ _ _ _ _ _ hr=>pr_p14 T  hr) fun _ _ _ _ h=>read_allThings rfl h
theorem ok_p250 (T : Tx K mg a) : FnOk P w K mg base CX0 9 a.f_p25 a.fd_p25 ["one", "other"] (spLaid0 K) :=
  T.F_p25.okQ sc_p25 (fun _ _ _ _ h=>by obtain ⟨_,_,_,_,e,_⟩:=h; rw [e]; rfl) (fun _ _ _ _ _ _ hr=>pr_p250 T (ok_p15 T) (ok_p19 T) (ok_p14 T) (ok_p35 T) hr) fun _ _ _ _ h=>read_laid0 rfl h
theorem ok_p25 (T : Tx K mg a) : FnOk P w K mg base CX0 10 a.f_p25 a.fd_p25 ["one", "other"] (spLaid K) :=
  T.F_p25.okQ sc_p25 (fun _ _ _ _ h=>by obtain ⟨_,_,_,_,e,_⟩:=h; rw [e]; rfl) (fun _ _ _ _ _ _ hr=>pr_p25 T (ok_p250 T) (ok_p15 T) (ok_p19 T) (ok_p14 T) (ok_p35 T) hr) fun _ _ _ _ h=>read_laid rfl h
theorem ok_draw (T : Tx K mg a) : FnOk P w K mg base CX0 1 a.f_draw a.fd_draw ["_law_script", "_law_k", "_law_many"] (spDraw K) :=
  T.F_draw.okQ sc_draw (fun _ _ _ _ h=>by obtain ⟨_,_,_,_,e,_⟩:=h; rw [e]; rfl) (fun _ _ _ _ _ _ hr=>pr_draw T  hr) fun _ _ _ _ h=>read_draw rfl h
theorem ok_size (T:Tx K mg a):FnOk P w K mg base CX0 2 a.f_size a.fd_size ["_law_script"] (spSize K):=
  T.F_size.okQ sc_size (fun _ _ _ _ h=>by obtain ⟨_,_,e,_⟩:=h; rw [e]; rfl) (fun _ _ _ _ _ _ hr=>pr_size T (ok_draw T) hr) fun _ _ _ _ h=>read_size rfl h
theorem ok_whole (T : Tx K mg a) : FnOk P w K mg base CX0 1 a.f_whole a.fd_whole ["_law_letters", "_law_mark_here", "_law_long"] spLWhole :=
  T.F_whole.okQ sc_whole (fun _ _ _ _ h=>by obtain ⟨_,_,_,e,_⟩:=h; rw [e]; rfl) (fun _ _ _ _ _ _ hr=>pr_whole T  hr) fun _ _ _ _ h=>read_lwhole2 rfl h
theorem ok_mark (T : Tx K mg a) : FnOk P w K mg base CX0 1 a.f_mark a.fd_mark ["_law_letters", "_law_number", "_law_long"] spText :=
  T.F_mark.okQ sc_mark (fun _ _ _ _ h=>by obtain ⟨_,_,_,e,_⟩:=h; rw [e]; rfl) (fun _ _ _ _ _ _ hr=>pr_mark T  hr) fun _ _ _ _ h=>read_text rfl h
theorem ok_some (T : Tx K mg a) : FnOk P w K mg base CX0 2 a.f_some a.fd_some ["_law_letters", "_law_hands", "_law_hand", "_law_low", "_law_high", "_law_long"] spLSome :=
  T.F_some.okQ sc_some (fun _ _ _ _ h=>by obtain ⟨_,_,_,_,_,_,e,_⟩:=h; rw [e]; rfl) (fun _ _ _ _ _ _ hr=>pr_some T (ok_whole T) hr) fun _ _ _ _ h=>read_lsome rfl h
theorem ok_stem (T : Tx K mg a) : FnOk P w K mg base CX0 3 a.f_stem a.fd_stem ["_law_letters", "_law_low", "_law_high"] spLStem :=
  T.F_stem.okQ sc_stem (fun _ _ _ _ h=>by obtain ⟨_,_,_,e,_⟩:=h; rw [e]; rfl) (fun _ _ _ _ _ _ hr=>pr_stem T (ok_some T) (ok_mark T) hr) fun _ _ _ _ h=>read_lstem rfl h
theorem ok_carried (T : Tx K mg a) : FnOk P w K mg base CX0 4 a.f_carried a.fd_carried ["_law_letters", "_law_rows_here", "_law_mark_here"] (spLCar K) :=
  T.F_carried.okQ sc_carried (fun _ _ _ _ h=>by obtain ⟨_,_,_,_,e,_⟩:=h; rw [e]; rfl) (fun _ _ _ _ _ _ hr=>pr_carried T (ok_stem T) hr) fun _ _ _ _ h=>read_lcar rfl h
theorem ok_marks (T : Tx K mg a) : FnOk P w K mg base CX0 2 a.f_marks a.fd_marks ["_law_script", "_law_k", "_law_letters", "_law_many"] (spTMarks K) :=
  T.F_marks.okQ sc_marks (fun _ _ _ _ h=>by obtain ⟨_,_,_,_,_,e,_⟩:=h; rw [e]; rfl) (fun _ _ _ _ _ _ hr=>pr_marks T (ok_draw T) hr) fun _ _ _ _ h=>read_tmarks rfl h
theorem ok_rows (T : Tx K mg a) : FnOk P w K mg base CX0 3 a.f_rows a.fd_rows ["_law_script", "_law_k", "_law_letters"] (spTRows K) :=
  T.F_rows.okQ sc_rows (fun _ _ _ _ h=>by obtain ⟨_,_,_,_,e,_⟩:=h; rw [e]; rfl) (fun _ _ _ _ _ _ hr=>pr_rows T (ok_draw T) (ok_marks T) hr) fun _ _ _ _ h=>read_trows rfl h
theorem ok_thing (T : Tx K mg a) : FnOk P w K mg base CX0 2 a.f_thing a.fd_thing ["_law_script", "_law_k"] (spHThing K) :=
  T.F_thing.okQ sc_thing (fun _ _ _ _ h=>by obtain ⟨_,_,_,e,_⟩:=h; rw [e]; rfl) (fun _ _ _ _ _ _ hr=>pr_thing T (ok_draw T) hr) fun _ _ _ _ h=>read_hthing rfl h
theorem ok_made (T : Tx K mg a) : FnOk P w K mg base CX0 3 a.f_made a.fd_made ["_law_script", "_law_k", "_law_size_here", "_law_renewals", "_law_more"] (spRMade K) :=
  T.F_made.okQ sc_made (fun _ _ _ _ h=>by obtain ⟨_,_,_,_,_,_,_,_,_,_,_,e,_⟩:=h; rw [e]; rfl) (fun _ _ _ _ _ _ hr=>pr_made T (ok_draw T) (ok_marks T) (ok_thing T) hr) fun _ _ _ _ h=>read_rmade rfl h
theorem ok_carry (T : Tx K mg a) : FnOk P w K mg base CX0 5 a.f_carry a.fd_carry ["_law_state", "_law_renewals"] (spRCarry K) :=
  T.F_carry.okQ sc_carry (fun _ _ _ _ h=>by obtain ⟨_,_,_,_,_,_,_,_,_,_,_,_,_,_,e,_⟩:=h; rw [e]; rfl) (fun _ _ _ _ _ _ hr=>pr_carry T (ok_carried T) hr) fun _ _ _ _ h=>read_rcarry rfl h
theorem ok_l_laid (T : Tx K mg a) : FnOk P w K mg base CX0 6 a.f_l_laid a.fd_l_laid ["_law_one", "_law_other", "_law_renewals"] (spRLaid K) :=
  T.F_l_laid.okQ sc_l_laid (fun _ _ _ _ h=>by obtain ⟨_,_,_,_,_,_,_,_,_,_,_,_,_,_,_,_,_,_,_,_,_,_,_,e,_⟩:=h; rw [e]; rfl) (fun _ _ _ _ _ _ hr=>pr_l_laid T (ok_carry T) hr) fun _ _ _ _ h=>read_rlaid rfl h
theorem ok_copy (T:Tx K mg a):FnOk P w K mg base CX0 1 a.f_copy a.fd_copy ["_law_state"] (spRCopy K):=
  T.F_copy.okQ sc_copy (fun _ _ _ _ h=>by obtain ⟨_,_,_,_,_,_,_,_,_,_,_,e,_⟩:=h; rw [e]; rfl) (fun _ _ _ _ _ _ hr=>pr_copy T  hr) fun _ _ _ _ h=>read_rcopy rfl h
theorem ok_law (T:Tx K mg a):FnOk P w K mg base CX0 11 a.f_law a.fd_law ["_law_script"] (spLaw K):=
  T.F_law.okQ sc_law (fun _ _ _ _ h=>by obtain ⟨_,_,e,_⟩:=h; rw [e]; rfl) (fun _ _ _ _ _ _ hr=>pr_law T (ok_size T) (ok_draw T) (ok_rows T) (ok_made T) (ok_copy T) (ok_l_laid T) (ok_p25 T) hr) fun _ _ _ _ h=>read_law rfl h
end
theorem tx_mk {K:PySem.W.Frag} {h:Heap} {mg:Str→Option Value} (X:K.In h) (G:h.Ns mainGlobals mg)
    {f_p33 od_p33 an_p33 sl_p33 oc_p33 kV_p33 dc_p33 pm_p33 cd_p33 ct_p33}
    (a_p33 : PySem.W.nsIn K mainGlobals "power" = some (some (.ref f_p33))) (l_p33 : K.lookup f_p33 = some ⟨oc_p33, od_p33, .func (PySem.W.fnOf "power" "power" (defArgs s_p33) (defBody s_p33) (defScope s_p33) .none kV_p33 dc_p33 pm_p33 an_p33 cd_p33 ct_p33), sl_p33⟩) (c_p33 : PySem.W.codeIn K cd_p33 "power" = true) (k_p33 : PySem.W.keepIn K (.ref f_p33) = true)
    {f_p22 od_p22 an_p22 sl_p22 oc_p22 kV_p22 dc_p22 pm_p22 cd_p22 ct_p22}
    (a_p22 : PySem.W.nsIn K mainGlobals "figure_at" = some (some (.ref f_p22))) (l_p22 : K.lookup f_p22 = some ⟨oc_p22, od_p22, .func (PySem.W.fnOf "figure_at" "figure_at" (defArgs s_p22) (defBody s_p22) (defScope s_p22) .none kV_p22 dc_p22 pm_p22 an_p22 cd_p22 ct_p22), sl_p22⟩) (c_p22 : PySem.W.codeIn K cd_p22 "figure_at" = true) (k_p22 : PySem.W.keepIn K (.ref f_p22) = true)
    {f_p37 od_p37 an_p37 sl_p37 oc_p37 kV_p37 dc_p37 pm_p37 cd_p37 ct_p37}
    (a_p37 : PySem.W.nsIn K mainGlobals "whole_of" = some (some (.ref f_p37))) (l_p37 : K.lookup f_p37 = some ⟨oc_p37, od_p37, .func (PySem.W.fnOf "whole_of" "whole_of" (defArgs s_p37) (defBody s_p37) (defScope s_p37) .none kV_p37 dc_p37 pm_p37 an_p37 cd_p37 ct_p37), sl_p37⟩) (c_p37 : PySem.W.codeIn K cd_p37 "whole_of" = true) (k_p37 : PySem.W.keepIn K (.ref f_p37) = true)
    {f_p28 od_p28 an_p28 sl_p28 oc_p28 kV_p28 dc_p28 pm_p28 cd_p28 ct_p28}
    (a_p28 : PySem.W.nsIn K mainGlobals "mark_of" = some (some (.ref f_p28))) (l_p28 : K.lookup f_p28 = some ⟨oc_p28, od_p28, .func (PySem.W.fnOf "mark_of" "mark_of" (defArgs s_p28) (defBody s_p28) (defScope s_p28) .none kV_p28 dc_p28 pm_p28 an_p28 cd_p28 ct_p28), sl_p28⟩) (c_p28 : PySem.W.codeIn K cd_p28 "mark_of" = true) (k_p28 : PySem.W.keepIn K (.ref f_p28) = true)
    {f_p21 od_p21 an_p21 sl_p21 oc_p21 kV_p21 dc_p21 pm_p21 cd_p21 ct_p21}
    (a_p21 : PySem.W.nsIn K mainGlobals "ends_of" = some (some (.ref f_p21))) (l_p21 : K.lookup f_p21 = some ⟨oc_p21, od_p21, .func (PySem.W.fnOf "ends_of" "ends_of" (defArgs s_p21) (defBody s_p21) (defScope s_p21) .none kV_p21 dc_p21 pm_p21 an_p21 cd_p21 ct_p21), sl_p21⟩) (c_p21 : PySem.W.codeIn K cd_p21 "ends_of" = true) (k_p21 : PySem.W.keepIn K (.ref f_p21) = true)
    {f_p16 od_p16 an_p16 sl_p16 oc_p16 kV_p16 dc_p16 pm_p16 cd_p16 ct_p16}
    (a_p16 : PySem.W.nsIn K mainGlobals "ask_room" = some (some (.ref f_p16))) (l_p16 : K.lookup f_p16 = some ⟨oc_p16, od_p16, .func (PySem.W.fnOf "ask_room" "ask_room" (defArgs s_p16) (defBody s_p16) (defScope s_p16) .none kV_p16 dc_p16 pm_p16 an_p16 cd_p16 ct_p16), sl_p16⟩) (c_p16 : PySem.W.codeIn K cd_p16 "ask_room" = true) (k_p16 : PySem.W.keepIn K (.ref f_p16) = true)
    {f_p24 od_p24 an_p24 sl_p24 oc_p24 kV_p24 dc_p24 pm_p24 cd_p24 ct_p24}
    (a_p24 : PySem.W.nsIn K mainGlobals "high_whole_of" = some (some (.ref f_p24))) (l_p24 : K.lookup f_p24 = some ⟨oc_p24, od_p24, .func (PySem.W.fnOf "high_whole_of" "high_whole_of" (defArgs s_p24) (defBody s_p24) (defScope s_p24) .none kV_p24 dc_p24 pm_p24 an_p24 cd_p24 ct_p24), sl_p24⟩) (c_p24 : PySem.W.codeIn K cd_p24 "high_whole_of" = true) (k_p24 : PySem.W.keepIn K (.ref f_p24) = true)
    {f_p31 od_p31 an_p31 sl_p31 oc_p31 kV_p31 dc_p31 pm_p31 cd_p31 ct_p31}
    (a_p31 : PySem.W.nsIn K mainGlobals "owned_below" = some (some (.ref f_p31))) (l_p31 : K.lookup f_p31 = some ⟨oc_p31, od_p31, .func (PySem.W.fnOf "owned_below" "owned_below" (defArgs s_p31) (defBody s_p31) (defScope s_p31) .none kV_p31 dc_p31 pm_p31 an_p31 cd_p31 ct_p31), sl_p31⟩) (c_p31 : PySem.W.codeIn K cd_p31 "owned_below" = true) (k_p31 : PySem.W.keepIn K (.ref f_p31) = true)
    {f_p32 od_p32 an_p32 sl_p32 oc_p32 kV_p32 dc_p32 pm_p32 cd_p32 ct_p32}
    (a_p32 : PySem.W.nsIn K mainGlobals "owned_up_to_low" = some (some (.ref f_p32))) (l_p32 : K.lookup f_p32 = some ⟨oc_p32, od_p32, .func (PySem.W.fnOf "owned_up_to_low" "owned_up_to_low" (defArgs s_p32) (defBody s_p32) (defScope s_p32) .none kV_p32 dc_p32 pm_p32 an_p32 cd_p32 ct_p32), sl_p32⟩) (c_p32 : PySem.W.codeIn K cd_p32 "owned_up_to_low" = true) (k_p32 : PySem.W.keepIn K (.ref f_p32) = true)
    {f_p30 od_p30 an_p30 sl_p30 oc_p30 kV_p30 dc_p30 pm_p30 cd_p30 ct_p30}
    (a_p30 : PySem.W.nsIn K mainGlobals "owned_ahead_of_high" = some (some (.ref f_p30))) (l_p30 : K.lookup f_p30 = some ⟨oc_p30, od_p30, .func (PySem.W.fnOf "owned_ahead_of_high" "owned_ahead_of_high" (defArgs s_p30) (defBody s_p30) (defScope s_p30) .none kV_p30 dc_p30 pm_p30 an_p30 cd_p30 ct_p30), sl_p30⟩) (c_p30 : PySem.W.codeIn K cd_p30 "owned_ahead_of_high" = true) (k_p30 : PySem.W.keepIn K (.ref f_p30) = true)
    {f_p20 od_p20 an_p20 sl_p20 oc_p20 kV_p20 dc_p20 pm_p20 cd_p20 ct_p20}
    (a_p20 : PySem.W.nsIn K mainGlobals "counted_at" = some (some (.ref f_p20))) (l_p20 : K.lookup f_p20 = some ⟨oc_p20, od_p20, .func (PySem.W.fnOf "counted_at" "counted_at" (defArgs s_p20) (defBody s_p20) (defScope s_p20) .none kV_p20 dc_p20 pm_p20 an_p20 cd_p20 ct_p20), sl_p20⟩) (c_p20 : PySem.W.codeIn K cd_p20 "counted_at" = true) (k_p20 : PySem.W.keepIn K (.ref f_p20) = true)
    {f_p29 od_p29 an_p29 sl_p29 oc_p29 kV_p29 dc_p29 pm_p29 cd_p29 ct_p29}
    (a_p29 : PySem.W.nsIn K mainGlobals "nth_mark" = some (some (.ref f_p29))) (l_p29 : K.lookup f_p29 = some ⟨oc_p29, od_p29, .func (PySem.W.fnOf "nth_mark" "nth_mark" (defArgs s_p29) (defBody s_p29) (defScope s_p29) .none kV_p29 dc_p29 pm_p29 an_p29 cd_p29 ct_p29), sl_p29⟩) (c_p29 : PySem.W.codeIn K cd_p29 "nth_mark" = true) (k_p29 : PySem.W.keepIn K (.ref f_p29) = true)
    {f_p27 od_p27 an_p27 sl_p27 oc_p27 kV_p27 dc_p27 pm_p27 cd_p27 ct_p27}
    (a_p27 : PySem.W.nsIn K mainGlobals "least_counted" = some (some (.ref f_p27))) (l_p27 : K.lookup f_p27 = some ⟨oc_p27, od_p27, .func (PySem.W.fnOf "least_counted" "least_counted" (defArgs s_p27) (defBody s_p27) (defScope s_p27) .none kV_p27 dc_p27 pm_p27 an_p27 cd_p27 ct_p27), sl_p27⟩) (c_p27 : PySem.W.codeIn K cd_p27 "least_counted" = true) (k_p27 : PySem.W.keepIn K (.ref f_p27) = true)
    {f_p36 od_p36 an_p36 sl_p36 oc_p36 kV_p36 dc_p36 pm_p36 cd_p36 ct_p36}
    (a_p36 : PySem.W.nsIn K mainGlobals "stem_between" = some (some (.ref f_p36))) (l_p36 : K.lookup f_p36 = some ⟨oc_p36, od_p36, .func (PySem.W.fnOf "stem_between" "stem_between" (defArgs s_p36) (defBody s_p36) (defScope s_p36) .none kV_p36 dc_p36 pm_p36 an_p36 cd_p36 ct_p36), sl_p36⟩) (c_p36 : PySem.W.codeIn K cd_p36 "stem_between" = true) (k_p36 : PySem.W.keepIn K (.ref f_p36) = true)
    {f_p34 od_p34 an_p34 sl_p34 oc_p34 kV_p34 dc_p34 pm_p34 cd_p34 ct_p34}
    (a_p34 : PySem.W.nsIn K mainGlobals "rows_ahead" = some (some (.ref f_p34))) (l_p34 : K.lookup f_p34 = some ⟨oc_p34, od_p34, .func (PySem.W.fnOf "rows_ahead" "rows_ahead" (defArgs s_p34) (defBody s_p34) (defScope s_p34) .none kV_p34 dc_p34 pm_p34 an_p34 cd_p34 ct_p34), sl_p34⟩) (c_p34 : PySem.W.codeIn K cd_p34 "rows_ahead" = true) (k_p34 : PySem.W.keepIn K (.ref f_p34) = true)
    {f_p23 od_p23 an_p23 sl_p23 oc_p23 kV_p23 dc_p23 pm_p23 cd_p23 ct_p23}
    (a_p23 : PySem.W.nsIn K mainGlobals "first_new" = some (some (.ref f_p23))) (l_p23 : K.lookup f_p23 = some ⟨oc_p23, od_p23, .func (PySem.W.fnOf "first_new" "first_new" (defArgs s_p23) (defBody s_p23) (defScope s_p23) .none kV_p23 dc_p23 pm_p23 an_p23 cd_p23 ct_p23), sl_p23⟩) (c_p23 : PySem.W.codeIn K cd_p23 "first_new" = true) (k_p23 : PySem.W.keepIn K (.ref f_p23) = true)
    {f_p18 od_p18 an_p18 sl_p18 oc_p18 kV_p18 dc_p18 pm_p18 cd_p18 ct_p18}
    (a_p18 : PySem.W.nsIn K mainGlobals "carried_knowing" = some (some (.ref f_p18))) (l_p18 : K.lookup f_p18 = some ⟨oc_p18, od_p18, .func (PySem.W.fnOf "carried_knowing" "carried_knowing" (defArgs s_p18) (defBody s_p18) (defScope s_p18) .none kV_p18 dc_p18 pm_p18 an_p18 cd_p18 ct_p18), sl_p18⟩) (c_p18 : PySem.W.codeIn K cd_p18 "carried_knowing" = true) (k_p18 : PySem.W.keepIn K (.ref f_p18) = true)
    {f_p35 od_p35 an_p35 sl_p35 oc_p35 kV_p35 dc_p35 pm_p35 cd_p35 ct_p35}
    (a_p35 : PySem.W.nsIn K mainGlobals "state_of" = some (some (.ref f_p35))) (l_p35 : K.lookup f_p35 = some ⟨oc_p35, od_p35, .func (PySem.W.fnOf "state_of" "state_of" (defArgs s_p35) (defBody s_p35) (defScope s_p35) .none kV_p35 dc_p35 pm_p35 an_p35 cd_p35 ct_p35), sl_p35⟩) (c_p35 : PySem.W.codeIn K cd_p35 "state_of" = true) (k_p35 : PySem.W.keepIn K (.ref f_p35) = true)
    {f_p15 od_p15 an_p15 sl_p15 oc_p15 kV_p15 dc_p15 pm_p15 cd_p15 ct_p15}
    (a_p15 : PySem.W.nsIn K mainGlobals "ask_meeting" = some (some (.ref f_p15))) (l_p15 : K.lookup f_p15 = some ⟨oc_p15, od_p15, .func (PySem.W.fnOf "ask_meeting" "ask_meeting" (defArgs s_p15) (defBody s_p15) (defScope s_p15) .none kV_p15 dc_p15 pm_p15 an_p15 cd_p15 ct_p15), sl_p15⟩) (c_p15 : PySem.W.codeIn K cd_p15 "ask_meeting" = true) (k_p15 : PySem.W.keepIn K (.ref f_p15) = true)
    {f_p17 od_p17 an_p17 sl_p17 oc_p17 kV_p17 dc_p17 pm_p17 cd_p17 ct_p17}
    (a_p17 : PySem.W.nsIn K mainGlobals "carried_by_all" = some (some (.ref f_p17))) (l_p17 : K.lookup f_p17 = some ⟨oc_p17, od_p17, .func (PySem.W.fnOf "carried_by_all" "carried_by_all" (defArgs s_p17) (defBody s_p17) (defScope s_p17) .none kV_p17 dc_p17 pm_p17 an_p17 cd_p17 ct_p17), sl_p17⟩) (c_p17 : PySem.W.codeIn K cd_p17 "carried_by_all" = true) (k_p17 : PySem.W.keepIn K (.ref f_p17) = true)
    {f_p19 od_p19 an_p19 sl_p19 oc_p19 kV_p19 dc_p19 pm_p19 cd_p19 ct_p19}
    (a_p19 : PySem.W.nsIn K mainGlobals "carried_marks" = some (some (.ref f_p19))) (l_p19 : K.lookup f_p19 = some ⟨oc_p19, od_p19, .func (PySem.W.fnOf "carried_marks" "carried_marks" (defArgs s_p19) (defBody s_p19) (defScope s_p19) .none kV_p19 dc_p19 pm_p19 an_p19 cd_p19 ct_p19), sl_p19⟩) (c_p19 : PySem.W.codeIn K cd_p19 "carried_marks" = true) (k_p19 : PySem.W.keepIn K (.ref f_p19) = true)
    {f_p14 od_p14 an_p14 sl_p14 oc_p14 kV_p14 dc_p14 pm_p14 cd_p14 ct_p14}
    (a_p14 : PySem.W.nsIn K mainGlobals "all_things" = some (some (.ref f_p14))) (l_p14 : K.lookup f_p14 = some ⟨oc_p14, od_p14, .func (PySem.W.fnOf "all_things" "all_things" (defArgs s_p14) (defBody s_p14) (defScope s_p14) .none kV_p14 dc_p14 pm_p14 an_p14 cd_p14 ct_p14), sl_p14⟩) (c_p14 : PySem.W.codeIn K cd_p14 "all_things" = true) (k_p14 : PySem.W.keepIn K (.ref f_p14) = true)
    {f_p25 od_p25 an_p25 sl_p25 oc_p25 kV_p25 dc_p25 pm_p25 cd_p25 ct_p25}
    (a_p25 : PySem.W.nsIn K mainGlobals "laid" = some (some (.ref f_p25))) (l_p25 : K.lookup f_p25 = some ⟨oc_p25, od_p25, .func (PySem.W.fnOf "laid" "laid" (defArgs s_p25) (defBody s_p25) (defScope s_p25) .none kV_p25 dc_p25 pm_p25 an_p25 cd_p25 ct_p25), sl_p25⟩) (c_p25 : PySem.W.codeIn K cd_p25 "laid" = true) (k_p25 : PySem.W.keepIn K (.ref f_p25) = true)
    {f_draw od_draw an_draw sl_draw oc_draw kV_draw dc_draw pm_draw cd_draw ct_draw}
    (a_draw : PySem.W.nsIn K mainGlobals "_law_draw" = some (some (.ref f_draw))) (l_draw : K.lookup f_draw = some ⟨oc_draw, od_draw, .func (PySem.W.fnOf "_law_draw" "_law_draw" (defArgs s_draw) (defBody s_draw) (defScope s_draw) .none kV_draw dc_draw pm_draw an_draw cd_draw ct_draw), sl_draw⟩) (c_draw : PySem.W.codeIn K cd_draw "_law_draw" = true) (k_draw : PySem.W.keepIn K (.ref f_draw) = true)
    {f_size od_size an_size sl_size oc_size kV_size dc_size pm_size cd_size ct_size}
    (a_size : PySem.W.nsIn K mainGlobals "_law_size" = some (some (.ref f_size))) (l_size : K.lookup f_size = some ⟨oc_size, od_size, .func (PySem.W.fnOf "_law_size" "_law_size" (defArgs s_size) (defBody s_size) (defScope s_size) .none kV_size dc_size pm_size an_size cd_size ct_size), sl_size⟩) (c_size : PySem.W.codeIn K cd_size "_law_size" = true) (k_size : PySem.W.keepIn K (.ref f_size) = true)
    {f_whole od_whole an_whole sl_whole oc_whole kV_whole dc_whole pm_whole cd_whole ct_whole}
    (a_whole : PySem.W.nsIn K mainGlobals "_law_whole" = some (some (.ref f_whole))) (l_whole : K.lookup f_whole = some ⟨oc_whole, od_whole, .func (PySem.W.fnOf "_law_whole" "_law_whole" (defArgs s_whole) (defBody s_whole) (defScope s_whole) .none kV_whole dc_whole pm_whole an_whole cd_whole ct_whole), sl_whole⟩) (c_whole : PySem.W.codeIn K cd_whole "_law_whole" = true) (k_whole : PySem.W.keepIn K (.ref f_whole) = true)
    {f_mark od_mark an_mark sl_mark oc_mark kV_mark dc_mark pm_mark cd_mark ct_mark}
    (a_mark : PySem.W.nsIn K mainGlobals "_law_mark" = some (some (.ref f_mark))) (l_mark : K.lookup f_mark = some ⟨oc_mark, od_mark, .func (PySem.W.fnOf "_law_mark" "_law_mark" (defArgs s_mark) (defBody s_mark) (defScope s_mark) .none kV_mark dc_mark pm_mark an_mark cd_mark ct_mark), sl_mark⟩) (c_mark : PySem.W.codeIn K cd_mark "_law_mark" = true) (k_mark : PySem.W.keepIn K (.ref f_mark) = true)
    {f_some od_some an_some sl_some oc_some kV_some dc_some pm_some cd_some ct_some}
    (a_some : PySem.W.nsIn K mainGlobals "_law_some" = some (some (.ref f_some))) (l_some : K.lookup f_some = some ⟨oc_some, od_some, .func (PySem.W.fnOf "_law_some" "_law_some" (defArgs s_some) (defBody s_some) (defScope s_some) .none kV_some dc_some pm_some an_some cd_some ct_some), sl_some⟩) (c_some : PySem.W.codeIn K cd_some "_law_some" = true) (k_some : PySem.W.keepIn K (.ref f_some) = true)
    {f_stem od_stem an_stem sl_stem oc_stem kV_stem dc_stem pm_stem cd_stem ct_stem}
    (a_stem : PySem.W.nsIn K mainGlobals "_law_stem" = some (some (.ref f_stem))) (l_stem : K.lookup f_stem = some ⟨oc_stem, od_stem, .func (PySem.W.fnOf "_law_stem" "_law_stem" (defArgs s_stem) (defBody s_stem) (defScope s_stem) .none kV_stem dc_stem pm_stem an_stem cd_stem ct_stem), sl_stem⟩) (c_stem : PySem.W.codeIn K cd_stem "_law_stem" = true) (k_stem : PySem.W.keepIn K (.ref f_stem) = true)
    {f_carried od_carried an_carried sl_carried oc_carried kV_carried dc_carried pm_carried cd_carried ct_carried}
    (a_carried : PySem.W.nsIn K mainGlobals "_law_carried" = some (some (.ref f_carried))) (l_carried : K.lookup f_carried = some ⟨oc_carried, od_carried, .func (PySem.W.fnOf "_law_carried" "_law_carried" (defArgs s_carried) (defBody s_carried) (defScope s_carried) .none kV_carried dc_carried pm_carried an_carried cd_carried ct_carried), sl_carried⟩) (c_carried : PySem.W.codeIn K cd_carried "_law_carried" = true) (k_carried : PySem.W.keepIn K (.ref f_carried) = true)
    {f_marks od_marks an_marks sl_marks oc_marks kV_marks dc_marks pm_marks cd_marks ct_marks}
    (a_marks : PySem.W.nsIn K mainGlobals "_law_marks" = some (some (.ref f_marks))) (l_marks : K.lookup f_marks = some ⟨oc_marks, od_marks, .func (PySem.W.fnOf "_law_marks" "_law_marks" (defArgs s_marks) (defBody s_marks) (defScope s_marks) .none kV_marks dc_marks pm_marks an_marks cd_marks ct_marks), sl_marks⟩) (c_marks : PySem.W.codeIn K cd_marks "_law_marks" = true) (k_marks : PySem.W.keepIn K (.ref f_marks) = true)
    {f_rows od_rows an_rows sl_rows oc_rows kV_rows dc_rows pm_rows cd_rows ct_rows}
    (a_rows : PySem.W.nsIn K mainGlobals "_law_rows" = some (some (.ref f_rows))) (l_rows : K.lookup f_rows = some ⟨oc_rows, od_rows, .func (PySem.W.fnOf "_law_rows" "_law_rows" (defArgs s_rows) (defBody s_rows) (defScope s_rows) .none kV_rows dc_rows pm_rows an_rows cd_rows ct_rows), sl_rows⟩) (c_rows : PySem.W.codeIn K cd_rows "_law_rows" = true) (k_rows : PySem.W.keepIn K (.ref f_rows) = true)
    {f_thing od_thing an_thing sl_thing oc_thing kV_thing dc_thing pm_thing cd_thing ct_thing}
    (a_thing : PySem.W.nsIn K mainGlobals "_law_thing" = some (some (.ref f_thing))) (l_thing : K.lookup f_thing = some ⟨oc_thing, od_thing, .func (PySem.W.fnOf "_law_thing" "_law_thing" (defArgs s_thing) (defBody s_thing) (defScope s_thing) .none kV_thing dc_thing pm_thing an_thing cd_thing ct_thing), sl_thing⟩) (c_thing : PySem.W.codeIn K cd_thing "_law_thing" = true) (k_thing : PySem.W.keepIn K (.ref f_thing) = true)
    {f_made od_made an_made sl_made oc_made kV_made dc_made pm_made cd_made ct_made}
    (a_made : PySem.W.nsIn K mainGlobals "_law_made" = some (some (.ref f_made))) (l_made : K.lookup f_made = some ⟨oc_made, od_made, .func (PySem.W.fnOf "_law_made" "_law_made" (defArgs s_made) (defBody s_made) (defScope s_made) .none kV_made dc_made pm_made an_made cd_made ct_made), sl_made⟩) (c_made : PySem.W.codeIn K cd_made "_law_made" = true) (k_made : PySem.W.keepIn K (.ref f_made) = true)
    {f_carry od_carry an_carry sl_carry oc_carry kV_carry dc_carry pm_carry cd_carry ct_carry}
    (a_carry : PySem.W.nsIn K mainGlobals "_law_carry" = some (some (.ref f_carry))) (l_carry : K.lookup f_carry = some ⟨oc_carry, od_carry, .func (PySem.W.fnOf "_law_carry" "_law_carry" (defArgs s_carry) (defBody s_carry) (defScope s_carry) .none kV_carry dc_carry pm_carry an_carry cd_carry ct_carry), sl_carry⟩) (c_carry : PySem.W.codeIn K cd_carry "_law_carry" = true) (k_carry : PySem.W.keepIn K (.ref f_carry) = true)
    {f_l_laid od_l_laid an_l_laid sl_l_laid oc_l_laid kV_l_laid dc_l_laid pm_l_laid cd_l_laid ct_l_laid}
    (a_l_laid : PySem.W.nsIn K mainGlobals "_law_laid" = some (some (.ref f_l_laid))) (l_l_laid : K.lookup f_l_laid = some ⟨oc_l_laid, od_l_laid, .func (PySem.W.fnOf "_law_laid" "_law_laid" (defArgs s_l_laid) (defBody s_l_laid) (defScope s_l_laid) .none kV_l_laid dc_l_laid pm_l_laid an_l_laid cd_l_laid ct_l_laid), sl_l_laid⟩) (c_l_laid : PySem.W.codeIn K cd_l_laid "_law_laid" = true) (k_l_laid : PySem.W.keepIn K (.ref f_l_laid) = true)
    {f_copy od_copy an_copy sl_copy oc_copy kV_copy dc_copy pm_copy cd_copy ct_copy}
    (a_copy : PySem.W.nsIn K mainGlobals "_law_copy" = some (some (.ref f_copy))) (l_copy : K.lookup f_copy = some ⟨oc_copy, od_copy, .func (PySem.W.fnOf "_law_copy" "_law_copy" (defArgs s_copy) (defBody s_copy) (defScope s_copy) .none kV_copy dc_copy pm_copy an_copy cd_copy ct_copy), sl_copy⟩) (c_copy : PySem.W.codeIn K cd_copy "_law_copy" = true) (k_copy : PySem.W.keepIn K (.ref f_copy) = true)
    {f_law od_law an_law sl_law oc_law kV_law dc_law pm_law cd_law ct_law}
    (a_law : PySem.W.nsIn K mainGlobals "law" = some (some (.ref f_law))) (l_law : K.lookup f_law = some ⟨oc_law, od_law, .func (PySem.W.fnOf "law" "law" (defArgs s_law) (defBody s_law) (defScope s_law) .none kV_law dc_law pm_law an_law cd_law ct_law), sl_law⟩) (c_law : PySem.W.codeIn K cd_law "law" = true) (k_law : PySem.W.keepIn K (.ref f_law) = true)
    {c_NoRoom : Addr} (ac_NoRoom : PySem.W.nsIn K mainGlobals "NoRoom" = some (some (.ref c_NoRoom))) (xc_NoRoom : PySem.W.excIn K c_NoRoom [.type "ValueError", .type "Exception", .type "BaseException", .type "object"] "ValueError.__new__" = true)
    {t_SMALL:Tok} (q_SMALL:PySem.W.nsIn K mainGlobals "SMALL" = some (some (.str "abcdefghijklmnopqrstuvwxyz" t_SMALL)))
    {t_LETTERS:Tok} (q_LETTERS:PySem.W.nsIn K mainGlobals "LETTERS" = some (some (.int 0 t_LETTERS)))
    {t_HANDS:Tok} (q_HANDS:PySem.W.nsIn K mainGlobals "HANDS" = some (some (.int 1 t_HANDS)))
    {t_RENEWALS:Tok} (q_RENEWALS:PySem.W.nsIn K mainGlobals "RENEWALS" = some (some (.int 2 t_RENEWALS)))
    {t_THINGS:Tok} (q_THINGS:PySem.W.nsIn K mainGlobals "THINGS" = some (some (.int 3 t_THINGS)))
    {t_TAKEN:Tok} (q_TAKEN:PySem.W.nsIn K mainGlobals "TAKEN" = some (some (.int 4 t_TAKEN)))
    (z_int:PySem.W.nsIn K mainGlobals "int" = some none)
    (z_isinstance:PySem.W.nsIn K mainGlobals "isinstance" = some none)
    (z_len:PySem.W.nsIn K mainGlobals "len" = some none)
    (z_list:PySem.W.nsIn K mainGlobals "list" = some none)
    (z_min:PySem.W.nsIn K mainGlobals "min" = some none)
    (z_range:PySem.W.nsIn K mainGlobals "range" = some none)
    (z_reversed:PySem.W.nsIn K mainGlobals "reversed" = some none)
    (z_set:PySem.W.nsIn K mainGlobals "set" = some none)
    (z_sorted:PySem.W.nsIn K mainGlobals "sorted" = some none)
    (z_tuple:PySem.W.nsIn K mainGlobals "tuple" = some none)
    : ∃ a : Ad, Tx K mg a ∧ mg "law" = some (.ref a.f_law) ∧ ∀ (s : Shared) (v : Value), BindsTo s a.fd_law ⟨[v], []⟩ [("_law_script", v)] := by
  have F_p33:=fun_mk (st:=s_p33) l_p33 c_p33 k_p33
  have b_p33 := F_p33.binds (ps := ["letters", "long"]) fun _ _ _ _ _ _ us hl => by obtain ⟨_, _, e⟩ := ex2 hl; subst e; rfl
  have F_p22:=fun_mk (st:=s_p22) l_p22 c_p22 k_p22
  have b_p22 := F_p22.binds (ps := ["mark", "place"]) fun _ _ _ _ _ _ us hl => by obtain ⟨_, _, e⟩ := ex2 hl; subst e; rfl
  have F_p37:=fun_mk (st:=s_p37) l_p37 c_p37 k_p37
  have b_p37 := F_p37.binds (ps := ["letters", "mark", "long"]) fun _ _ _ _ _ _ us hl => by obtain ⟨_, _, _, e⟩ := ex3 hl; subst e; rfl
  have F_p28:=fun_mk (st:=s_p28) l_p28 c_p28 k_p28
  have b_p28 := F_p28.binds (ps := ["letters", "number", "long"]) fun _ _ _ _ _ _ us hl => by obtain ⟨_, _, _, e⟩ := ex3 hl; subst e; rfl
  have F_p21:=fun_mk (st:=s_p21) l_p21 c_p21 k_p21
  have b_p21 := F_p21.binds (ps := ["letters", "hands", "hand"]) fun _ _ _ _ _ _ us hl => by obtain ⟨_, _, _, e⟩ := ex3 hl; subst e; rfl
  have F_p16:=fun_mk (st:=s_p16) l_p16 c_p16 k_p16
  have b_p16 := F_p16.binds (ps := ["low", "high"]) fun _ _ _ _ _ _ us hl => by obtain ⟨_, _, e⟩ := ex2 hl; subst e; rfl
  have F_p24:=fun_mk (st:=s_p24) l_p24 c_p24 k_p24
  have b_p24 := F_p24.binds (ps := ["letters", "high", "long"]) fun _ _ _ _ _ _ us hl => by obtain ⟨_, _, _, e⟩ := ex3 hl; subst e; rfl
  have F_p31:=fun_mk (st:=s_p31) l_p31 c_p31 k_p31
  have b_p31 := F_p31.binds (ps := ["letters", "ends", "number"]) fun _ _ _ _ _ _ us hl => by obtain ⟨_, _, _, e⟩ := ex3 hl; subst e; rfl
  have F_p32:=fun_mk (st:=s_p32) l_p32 c_p32 k_p32
  have b_p32 := F_p32.binds (ps := ["letters", "ends", "low_whole"]) fun _ _ _ _ _ _ us hl => by obtain ⟨_, _, _, e⟩ := ex3 hl; subst e; rfl
  have F_p30:=fun_mk (st:=s_p30) l_p30 c_p30 k_p30
  have b_p30 := F_p30.binds (ps := ["letters", "ends", "high", "high_whole", "long", "beginnings"]) fun _ _ _ _ _ _ us hl => by obtain ⟨_, _, _, _, _, _, e⟩ := ex6 hl; subst e; rfl
  have F_p20:=fun_mk (st:=s_p20) l_p20 c_p20 k_p20
  have b_p20 := F_p20.binds (ps := ["letters", "ends", "low", "high", "long", "beginnings"]) fun _ _ _ _ _ _ us hl => by obtain ⟨_, _, _, _, _, _, e⟩ := ex6 hl; subst e; rfl
  have F_p29:=fun_mk (st:=s_p29) l_p29 c_p29 k_p29
  have b_p29 := F_p29.binds (ps := ["letters", "hands", "hand", "low", "high", "long", "number"]) fun _ _ _ _ _ _ us hl => by obtain ⟨_, _, _, _, _, _, _, e⟩ := ex7 hl; subst e; rfl
  have F_p27:=fun_mk (st:=s_p27) l_p27 c_p27 k_p27
  have b_p27 := F_p27.binds (ps := ["letters", "ends", "low", "high", "many", "beginnings"]) fun _ _ _ _ _ _ us hl => by obtain ⟨_, _, _, _, _, _, e⟩ := ex6 hl; subst e; rfl
  have F_p36:=fun_mk (st:=s_p36) l_p36 c_p36 k_p36
  have b_p36 := F_p36.binds (ps := ["letters", "low", "high"]) fun _ _ _ _ _ _ us hl => by obtain ⟨_, _, _, e⟩ := ex3 hl; subst e; rfl
  have F_p34:=fun_mk (st:=s_p34) l_p34 c_p34 k_p34
  have b_p34 := F_p34.binds (ps := ["rows", "mark"]) fun _ _ _ _ _ _ us hl => by obtain ⟨_, _, e⟩ := ex2 hl; subst e; rfl
  have F_p23:=fun_mk (st:=s_p23) l_p23 c_p23 k_p23
  have b_p23:=F_p23.binds (ps:=["rows"]) fun _ _ _ _ _ _ us hl=>by obtain ⟨_,e⟩:=ex1 hl; subst e; rfl
  have F_p18:=fun_mk (st:=s_p18) l_p18 c_p18 k_p18
  have b_p18 := F_p18.binds (ps := ["letters", "rows", "mark", "stems"]) fun _ _ _ _ _ _ us hl => by obtain ⟨_, _, _, _, e⟩ := ex4 hl; subst e; rfl
  have F_p35:=fun_mk (st:=s_p35) l_p35 c_p35 k_p35
  have b_p35 := F_p35.binds (ps := ["letters", "hands", "renewals", "things", "taken"]) fun _ _ _ _ _ _ us hl => by obtain ⟨_, _, _, _, _, e⟩ := ex5 hl; subst e; rfl
  have F_p15:=fun_mk (st:=s_p15) l_p15 c_p15 k_p15
  have b_p15 := F_p15.binds (ps := ["fewer", "more"]) fun _ _ _ _ _ _ us hl => by obtain ⟨_, _, e⟩ := ex2 hl; subst e; rfl
  have F_p17:=fun_mk (st:=s_p17) l_p17 c_p17 k_p17
  have b_p17 := F_p17.binds (ps := ["letters", "renewals", "mark", "stems"]) fun _ _ _ _ _ _ us hl => by obtain ⟨_, _, _, _, e⟩ := ex4 hl; subst e; rfl
  have F_p19:=fun_mk (st:=s_p19) l_p19 c_p19 k_p19
  have b_p19 := F_p19.binds (ps := ["state", "renewals"]) fun _ _ _ _ _ _ us hl => by obtain ⟨_, _, e⟩ := ex2 hl; subst e; rfl
  have F_p14:=fun_mk (st:=s_p14) l_p14 c_p14 k_p14
  have b_p14 := F_p14.binds (ps := ["one", "other"]) fun _ _ _ _ _ _ us hl => by obtain ⟨_, _, e⟩ := ex2 hl; subst e; rfl
  have F_p25:=fun_mk (st:=s_p25) l_p25 c_p25 k_p25
  have b_p25 := F_p25.binds (ps := ["one", "other"]) fun _ _ _ _ _ _ us hl => by obtain ⟨_, _, e⟩ := ex2 hl; subst e; rfl
  have F_draw:=fun_mk (st:=s_draw) l_draw c_draw k_draw
  have b_draw := F_draw.binds (ps := ["_law_script", "_law_k", "_law_many"]) fun _ _ _ _ _ _ us hl => by obtain ⟨_, _, _, e⟩ := ex3 hl; subst e; rfl
  have F_size:=fun_mk (st:=s_size) l_size c_size k_size
  have b_size:=F_size.binds (ps:=["_law_script"]) fun _ _ _ _ _ _ us hl=>by obtain ⟨_,e⟩:=ex1 hl; subst e; rfl
  have F_whole:=fun_mk (st:=s_whole) l_whole c_whole k_whole
  have b_whole := F_whole.binds (ps := ["_law_letters", "_law_mark_here", "_law_long"]) fun _ _ _ _ _ _ us hl => by obtain ⟨_, _, _, e⟩ := ex3 hl; subst e; rfl
  have F_mark:=fun_mk (st:=s_mark) l_mark c_mark k_mark
  have b_mark := F_mark.binds (ps := ["_law_letters", "_law_number", "_law_long"]) fun _ _ _ _ _ _ us hl => by obtain ⟨_, _, _, e⟩ := ex3 hl; subst e; rfl
  have F_some:=fun_mk (st:=s_some) l_some c_some k_some
  have b_some := F_some.binds (ps := ["_law_letters", "_law_hands", "_law_hand", "_law_low", "_law_high", "_law_long"]) fun _ _ _ _ _ _ us hl => by obtain ⟨_, _, _, _, _, _, e⟩ := ex6 hl; subst e; rfl
  have F_stem:=fun_mk (st:=s_stem) l_stem c_stem k_stem
  have b_stem := F_stem.binds (ps := ["_law_letters", "_law_low", "_law_high"]) fun _ _ _ _ _ _ us hl => by obtain ⟨_, _, _, e⟩ := ex3 hl; subst e; rfl
  have F_carried:=fun_mk (st:=s_carried) l_carried c_carried k_carried
  have b_carried := F_carried.binds (ps := ["_law_letters", "_law_rows_here", "_law_mark_here"]) fun _ _ _ _ _ _ us hl => by obtain ⟨_, _, _, e⟩ := ex3 hl; subst e; rfl
  have F_marks:=fun_mk (st:=s_marks) l_marks c_marks k_marks
  have b_marks := F_marks.binds (ps := ["_law_script", "_law_k", "_law_letters", "_law_many"]) fun _ _ _ _ _ _ us hl => by obtain ⟨_, _, _, _, e⟩ := ex4 hl; subst e; rfl
  have F_rows:=fun_mk (st:=s_rows) l_rows c_rows k_rows
  have b_rows := F_rows.binds (ps := ["_law_script", "_law_k", "_law_letters"]) fun _ _ _ _ _ _ us hl => by obtain ⟨_, _, _, e⟩ := ex3 hl; subst e; rfl
  have F_thing:=fun_mk (st:=s_thing) l_thing c_thing k_thing
  have b_thing := F_thing.binds (ps := ["_law_script", "_law_k"]) fun _ _ _ _ _ _ us hl => by obtain ⟨_, _, e⟩ := ex2 hl; subst e; rfl
  have F_made:=fun_mk (st:=s_made) l_made c_made k_made
  have b_made := F_made.binds (ps := ["_law_script", "_law_k", "_law_size_here", "_law_renewals", "_law_more"]) fun _ _ _ _ _ _ us hl => by obtain ⟨_, _, _, _, _, e⟩ := ex5 hl; subst e; rfl
  have F_carry:=fun_mk (st:=s_carry) l_carry c_carry k_carry
  have b_carry := F_carry.binds (ps := ["_law_state", "_law_renewals"]) fun _ _ _ _ _ _ us hl => by obtain ⟨_, _, e⟩ := ex2 hl; subst e; rfl
  have F_l_laid:=fun_mk (st:=s_l_laid) l_l_laid c_l_laid k_l_laid
  have b_l_laid := F_l_laid.binds (ps := ["_law_one", "_law_other", "_law_renewals"]) fun _ _ _ _ _ _ us hl => by obtain ⟨_, _, _, e⟩ := ex3 hl; subst e; rfl
  have F_copy:=fun_mk (st:=s_copy) l_copy c_copy k_copy
  have b_copy:=F_copy.binds (ps:=["_law_state"]) fun _ _ _ _ _ _ us hl=>by obtain ⟨_,e⟩:=ex1 hl; subst e; rfl
  have F_law:=fun_mk (st:=s_law) l_law c_law k_law
  have b_law:=F_law.binds (ps:=["_law_script"]) fun _ _ _ _ _ _ us hl=>by obtain ⟨_,e⟩:=ex1 hl; subst e; rfl
  exact ⟨⟨c_NoRoom,f_p33,f_p22,f_p37,f_p28,f_p21,f_p16,f_p24,f_p31,f_p32,f_p30,f_p20,f_p29,f_p27,f_p36,f_p34,f_p23,f_p18,f_p35,f_p15,f_p17,f_p19,f_p14,f_p25,f_draw,f_size,f_whole,f_mark,f_some,f_stem,f_carried,f_marks,f_rows,f_thing,f_made,f_carry,f_l_laid,f_copy,f_law,_,_,_,_,_,_,_,_,_,_,_,_,_,_,_,_,_,_,_,_,_,_,_,_,_,_,_,_,_,_,_,_,_,_,_,_,_,_⟩,⟨PySem.W.mg_none_of X G z_int,PySem.W.mg_none_of X G z_isinstance,PySem.W.mg_none_of X G z_len,PySem.W.mg_none_of X G z_list,PySem.W.mg_none_of X G z_min,PySem.W.mg_none_of X G z_range,PySem.W.mg_none_of X G z_reversed,PySem.W.mg_none_of X G z_set,PySem.W.mg_none_of X G z_sorted,PySem.W.mg_none_of X G z_tuple,⟨_,PySem.W.mg_of X G q_SMALL⟩,⟨_,PySem.W.mg_of X G q_LETTERS⟩,⟨_,PySem.W.mg_of X G q_HANDS⟩,⟨_,PySem.W.mg_of X G q_RENEWALS⟩,⟨_,PySem.W.mg_of X G q_THINGS⟩,⟨_,PySem.W.mg_of X G q_TAKEN⟩,PySem.W.mg_of X G ac_NoRoom,xc_NoRoom,PySem.W.mg_of X G a_p33,F_p33,b_p33,PySem.W.mg_of X G a_p22,F_p22,b_p22,PySem.W.mg_of X G a_p37,F_p37,b_p37,PySem.W.mg_of X G a_p28,F_p28,b_p28,PySem.W.mg_of X G a_p21,F_p21,b_p21,PySem.W.mg_of X G a_p16,F_p16,b_p16,PySem.W.mg_of X G a_p24,F_p24,b_p24,PySem.W.mg_of X G a_p31,F_p31,b_p31,PySem.W.mg_of X G a_p32,F_p32,b_p32,PySem.W.mg_of X G a_p30,F_p30,b_p30,PySem.W.mg_of X G a_p20,F_p20,b_p20,PySem.W.mg_of X G a_p29,F_p29,b_p29,PySem.W.mg_of X G a_p27,F_p27,b_p27,PySem.W.mg_of X G a_p36,F_p36,b_p36,PySem.W.mg_of X G a_p34,F_p34,b_p34,PySem.W.mg_of X G a_p23,F_p23,b_p23,PySem.W.mg_of X G a_p18,F_p18,b_p18,PySem.W.mg_of X G a_p35,F_p35,b_p35,PySem.W.mg_of X G a_p15,F_p15,b_p15,PySem.W.mg_of X G a_p17,F_p17,b_p17,PySem.W.mg_of X G a_p19,F_p19,b_p19,PySem.W.mg_of X G a_p14,F_p14,b_p14,PySem.W.mg_of X G a_p25,F_p25,b_p25,PySem.W.mg_of X G a_draw,F_draw,b_draw,PySem.W.mg_of X G a_size,F_size,b_size,PySem.W.mg_of X G a_whole,F_whole,b_whole,PySem.W.mg_of X G a_mark,F_mark,b_mark,PySem.W.mg_of X G a_some,F_some,b_some,PySem.W.mg_of X G a_stem,F_stem,b_stem,PySem.W.mg_of X G a_carried,F_carried,b_carried,PySem.W.mg_of X G a_marks,F_marks,b_marks,PySem.W.mg_of X G a_rows,F_rows,b_rows,PySem.W.mg_of X G a_thing,F_thing,b_thing,PySem.W.mg_of X G a_made,F_made,b_made,PySem.W.mg_of X G a_carry,F_carry,b_carry,PySem.W.mg_of X G a_l_laid,F_l_laid,b_l_laid,PySem.W.mg_of X G a_copy,F_copy,b_copy,PySem.W.mg_of X G a_law,F_law,b_law⟩,PySem.W.mg_of X G a_law,fun s v=>.of_eq rfl⟩
theorem walk {l:PySem.W.OpenLaw} {q:Program} {loose:List Str} {XP:(Str→Option Value)→Heap→Prop} {YP:World→Heap→Prop} {d:DefRec} {K:Params→PySem.W.Frag} (hn:l.most = some 63) (hdf:d.params.defaults = [])
    (hY:∀ (w:World) (h:Heap),YP w h→(K w.params).In h)
    (F:∀ (w:World) (mg:Str→Option Value) (fa:Addr) (h:Heap),(K w.params).In h→h.Ns mainGlobals mg→mg d.name = some (.ref fa)→
      ∃ fd : FuncData, (∀ (s : Shared) (u : Value), BindsTo s fd ⟨[u], []⟩ [("_law_script", u)]) ∧ ∀ base : Heap, (K w.params).In base → base.Ns mainGlobals mg → FnOk l.prog w (K w.params) mg base CX0 11 fa fd ["_law_script"] (spLaw (K w.params))) :
    PySem.W.WalkO q loose XP YP l.row.toRowW d [] (fun f vs=>PySem.call f vs):=
  L2.walk_of (n:=63) (k:=11) (x:="_law_script") (CX:=fun _=>CX0) (sp:=fun w=>spLaw (K w.params)) hn (by decide) hdf ⟨rfl,by decide,by decide⟩ hY F (fun _ _ a ns hl _ hS=>⟨a,ns,rfl,hS,hl,fun _=>rfl⟩) fun _ _ _ _ _ z=>z
end K65
open PySem PySem.W PyProof.Rows
set_option maxRecDepth 100000 in
set_option maxHeartbeats 0 in
theorem PySem.Challenge.cw_shelfmark_k65_read_states_laid_holds : PySem.Challenge.rw_shelfmark_k65_read_states_laid.Holds := by
  w_on; o_law; k_head; (case hw=>w_witness2)
  k_fill
  refine K65.walk (l:=PySem.Challenge.rw_shelfmark_k65_read_states_laid) rfl rfl (fun w h Y=>PySem.W.kIn_of Y) ?F
  case F=>
    intro w mg fa h KX G hmg
    have M : ∃ a : K65.Ad, K65.Tx (L2.KOf KX) mg a ∧ mg "law" = some (.ref a.f_law) ∧ ∀ (s : Shared) (v : Value), BindsTo s a.fd_law ⟨[v], []⟩ [("_law_script", v)] := by
      dsimp only [L2.KOf]
      refine' K65.tx_mk KX G (a_p33:=?a_p33) (l_p33:=?l_p33) (c_p33:=?c_p33) (k_p33:=?k_p33) (a_p22:=?a_p22) (l_p22:=?l_p22) (c_p22:=?c_p22) (k_p22:=?k_p22) (a_p37:=?a_p37) (l_p37:=?l_p37) (c_p37:=?c_p37) (k_p37:=?k_p37) (a_p28:=?a_p28) (l_p28:=?l_p28) (c_p28:=?c_p28) (k_p28:=?k_p28) (a_p21:=?a_p21) (l_p21:=?l_p21) (c_p21:=?c_p21) (k_p21:=?k_p21) (a_p16:=?a_p16) (l_p16:=?l_p16) (c_p16:=?c_p16) (k_p16:=?k_p16) (a_p24:=?a_p24) (l_p24:=?l_p24) (c_p24:=?c_p24) (k_p24:=?k_p24) (a_p31:=?a_p31) (l_p31:=?l_p31) (c_p31:=?c_p31) (k_p31:=?k_p31) (a_p32:=?a_p32) (l_p32:=?l_p32) (c_p32:=?c_p32) (k_p32:=?k_p32) (a_p30:=?a_p30) (l_p30:=?l_p30) (c_p30:=?c_p30) (k_p30:=?k_p30) (a_p20:=?a_p20) (l_p20:=?l_p20) (c_p20:=?c_p20) (k_p20:=?k_p20) (a_p29:=?a_p29) (l_p29:=?l_p29) (c_p29:=?c_p29) (k_p29:=?k_p29) (a_p27:=?a_p27) (l_p27:=?l_p27) (c_p27:=?c_p27) (k_p27:=?k_p27) (a_p36:=?a_p36) (l_p36:=?l_p36) (c_p36:=?c_p36) (k_p36:=?k_p36) (a_p34:=?a_p34) (l_p34:=?l_p34) (c_p34:=?c_p34) (k_p34:=?k_p34) (a_p23:=?a_p23) (l_p23:=?l_p23) (c_p23:=?c_p23) (k_p23:=?k_p23) (a_p18:=?a_p18) (l_p18:=?l_p18) (c_p18:=?c_p18) (k_p18:=?k_p18) (a_p35:=?a_p35) (l_p35:=?l_p35) (c_p35:=?c_p35) (k_p35:=?k_p35) (a_p15:=?a_p15) (l_p15:=?l_p15) (c_p15:=?c_p15) (k_p15:=?k_p15) (a_p17:=?a_p17) (l_p17:=?l_p17) (c_p17:=?c_p17) (k_p17:=?k_p17) (a_p19:=?a_p19) (l_p19:=?l_p19) (c_p19:=?c_p19) (k_p19:=?k_p19) (a_p14:=?a_p14) (l_p14:=?l_p14) (c_p14:=?c_p14) (k_p14:=?k_p14) (a_p25:=?a_p25) (l_p25:=?l_p25) (c_p25:=?c_p25) (k_p25:=?k_p25) (a_draw:=?a_draw) (l_draw:=?l_draw) (c_draw:=?c_draw) (k_draw:=?k_draw) (a_size:=?a_size) (l_size:=?l_size) (c_size:=?c_size) (k_size:=?k_size) (a_whole:=?a_whole) (l_whole:=?l_whole) (c_whole:=?c_whole) (k_whole:=?k_whole) (a_mark:=?a_mark) (l_mark:=?l_mark) (c_mark:=?c_mark) (k_mark:=?k_mark) (a_some:=?a_some) (l_some:=?l_some) (c_some:=?c_some) (k_some:=?k_some) (a_stem:=?a_stem) (l_stem:=?l_stem) (c_stem:=?c_stem) (k_stem:=?k_stem) (a_carried:=?a_carried) (l_carried:=?l_carried) (c_carried:=?c_carried) (k_carried:=?k_carried) (a_marks:=?a_marks) (l_marks:=?l_marks) (c_marks:=?c_marks) (k_marks:=?k_marks) (a_rows:=?a_rows) (l_rows:=?l_rows) (c_rows:=?c_rows) (k_rows:=?k_rows) (a_thing:=?a_thing) (l_thing:=?l_thing) (c_thing:=?c_thing) (k_thing:=?k_thing) (a_made:=?a_made) (l_made:=?l_made) (c_made:=?c_made) (k_made:=?k_made) (a_carry:=?a_carry) (l_carry:=?l_carry) (c_carry:=?c_carry) (k_carry:=?k_carry) (a_l_laid:=?a_l_laid) (l_l_laid:=?l_l_laid) (c_l_laid:=?c_l_laid) (k_l_laid:=?k_l_laid) (a_copy:=?a_copy) (l_copy:=?l_copy) (c_copy:=?c_copy) (k_copy:=?k_copy) (a_law:=?a_law) (l_law:=?l_law) (c_law:=?c_law) (k_law:=?k_law) (ac_NoRoom:=?ac_NoRoom) (xc_NoRoom:=?xc_NoRoom) (q_SMALL:=?q_SMALL) (q_LETTERS:=?q_LETTERS) (q_HANDS:=?q_HANDS) (q_RENEWALS:=?q_RENEWALS) (q_THINGS:=?q_THINGS) (q_TAKEN:=?q_TAKEN) (z_int:=?z_int) (z_isinstance:=?z_isinstance) (z_len:=?z_len) (z_list:=?z_list) (z_min:=?z_min) (z_range:=?z_range) (z_reversed:=?z_reversed) (z_set:=?z_set) (z_sorted:=?z_sorted) (z_tuple:=?z_tuple)
      (case a_p33=>k_is)
      (case l_p33=>k_is)
      (case c_p33=>k_is)
      (case k_p33=>k_is)
      (case a_p22=>k_is)
      (case l_p22=>k_is)
      (case c_p22=>k_is)
      (case k_p22=>k_is)
      (case a_p37=>k_is)
      (case l_p37=>k_is)
      (case c_p37=>k_is)
      (case k_p37=>k_is)
      (case a_p28=>k_is)
      (case l_p28=>k_is)
      (case c_p28=>k_is)
      (case k_p28=>k_is)
      (case a_p21=>k_is)
      (case l_p21=>k_is)
      (case c_p21=>k_is)
      (case k_p21=>k_is)
      (case a_p16=>k_is)
      (case l_p16=>k_is)
      (case c_p16=>k_is)
      (case k_p16=>k_is)
      (case a_p24=>k_is)
      (case l_p24=>k_is)
      (case c_p24=>k_is)
      (case k_p24=>k_is)
      (case a_p31=>k_is)
      (case l_p31=>k_is)
      (case c_p31=>k_is)
      (case k_p31=>k_is)
      (case a_p32=>k_is)
      (case l_p32=>k_is)
      (case c_p32=>k_is)
      (case k_p32=>k_is)
      (case a_p30=>k_is)
      (case l_p30=>k_is)
      (case c_p30=>k_is)
      (case k_p30=>k_is)
      (case a_p20=>k_is)
      (case l_p20=>k_is)
      (case c_p20=>k_is)
      (case k_p20=>k_is)
      (case a_p29=>k_is)
      (case l_p29=>k_is)
      (case c_p29=>k_is)
      (case k_p29=>k_is)
      (case a_p27=>k_is)
      (case l_p27=>k_is)
      (case c_p27=>k_is)
      (case k_p27=>k_is)
      (case a_p36=>k_is)
      (case l_p36=>k_is)
      (case c_p36=>k_is)
      (case k_p36=>k_is)
      (case a_p34=>k_is)
      (case l_p34=>k_is)
      (case c_p34=>k_is)
      (case k_p34=>k_is)
      (case a_p23=>k_is)
      (case l_p23=>k_is)
      (case c_p23=>k_is)
      (case k_p23=>k_is)
      (case a_p18=>k_is)
      (case l_p18=>k_is)
      (case c_p18=>k_is)
      (case k_p18=>k_is)
      (case a_p35=>k_is)
      (case l_p35=>k_is)
      (case c_p35=>k_is)
      (case k_p35=>k_is)
      (case a_p15=>k_is)
      (case l_p15=>k_is)
      (case c_p15=>k_is)
      (case k_p15=>k_is)
      (case a_p17=>k_is)
      (case l_p17=>k_is)
      (case c_p17=>k_is)
      (case k_p17=>k_is)
      (case a_p19=>k_is)
      (case l_p19=>k_is)
      (case c_p19=>k_is)
      (case k_p19=>k_is)
      (case a_p14=>k_is)
      (case l_p14=>k_is)
      (case c_p14=>k_is)
      (case k_p14=>k_is)
      (case a_p25=>k_is)
      (case l_p25=>k_is)
      (case c_p25=>k_is)
      (case k_p25=>k_is)
      (case a_draw=>k_is)
      (case l_draw=>k_is)
      (case c_draw=>k_is)
      (case k_draw=>k_is)
      (case a_size=>k_is)
      (case l_size=>k_is)
      (case c_size=>k_is)
      (case k_size=>k_is)
      (case a_whole=>k_is)
      (case l_whole=>k_is)
      (case c_whole=>k_is)
      (case k_whole=>k_is)
      (case a_mark=>k_is)
      (case l_mark=>k_is)
      (case c_mark=>k_is)
      (case k_mark=>k_is)
      (case a_some=>k_is)
      (case l_some=>k_is)
      (case c_some=>k_is)
      (case k_some=>k_is)
      (case a_stem=>k_is)
      (case l_stem=>k_is)
      (case c_stem=>k_is)
      (case k_stem=>k_is)
      (case a_carried=>k_is)
      (case l_carried=>k_is)
      (case c_carried=>k_is)
      (case k_carried=>k_is)
      (case a_marks=>k_is)
      (case l_marks=>k_is)
      (case c_marks=>k_is)
      (case k_marks=>k_is)
      (case a_rows=>k_is)
      (case l_rows=>k_is)
      (case c_rows=>k_is)
      (case k_rows=>k_is)
      (case a_thing=>k_is)
      (case l_thing=>k_is)
      (case c_thing=>k_is)
      (case k_thing=>k_is)
      (case a_made=>k_is)
      (case l_made=>k_is)
      (case c_made=>k_is)
      (case k_made=>k_is)
      (case a_carry=>k_is)
      (case l_carry=>k_is)
      (case c_carry=>k_is)
      (case k_carry=>k_is)
      (case a_l_laid=>k_is)
      (case l_l_laid=>k_is)
      (case c_l_laid=>k_is)
      (case k_l_laid=>k_is)
      (case a_copy=>k_is)
      (case l_copy=>k_is)
      (case c_copy=>k_is)
      (case k_copy=>k_is)
      (case a_law=>k_is)
      (case l_law=>k_is)
      (case c_law=>k_is)
      (case k_law=>k_is)
      (case ac_NoRoom=>k_is)
      (case xc_NoRoom=>k_exc)
      (case q_SMALL=>k_is)
      (case q_LETTERS=>k_is)
      (case q_HANDS=>k_is)
      (case q_RENEWALS=>k_is)
      (case q_THINGS=>k_is)
      (case q_TAKEN=>k_is)
      (case z_int=>k_is)
      (case z_isinstance=>k_is)
      (case z_len=>k_is)
      (case z_list=>k_is)
      (case z_min=>k_is)
      (case z_range=>k_is)
      (case z_reversed=>k_is)
      (case z_set=>k_is)
      (case z_sorted=>k_is)
      (case z_tuple=>k_is)
    obtain ⟨a,T,hl,hb⟩:=M
    have e0:=hmg.symm.trans hl
    cases e0
    exact ⟨_,hb,fun base _ _=>K65.ok_law T⟩
